"""Wishroads: plans of least price, or papers that there are none."""
