"""Point 7: cuts between a state and the wish."""

import random
import time
import unittest

import slow
import slow_bounds
from wishroads.cuts import cut_bound, cuts, shows_cuts
from wishroads.errors import BadNumber, BadState, BadTask
from wishroads.loosened import first_price
from wishroads.searching import price_left
from wishroads.worlds import sample, task_of
from wrong import NO_BOUNDS, NO_FACTS, OTHERS, LikeAll

# From a to b by far or near, from b to c; jump leads from a to c at once; idle and wipe add nothing.
DEEDS = (
    ("far", ("a",), (), ("b",), ("a",), 5),
    ("idle", ("a",), (), (), (), 1),
    ("jump", ("a",), (), ("b", "c"), (), 9),
    ("near", ("a",), ("x",), ("b",), (), 2),
    ("next", ("b",), (), ("c",), (), 3),
    ("wipe", (), (), (), ("a",), 1),
)
TASK = (DEEDS, ("a",), ("c",))
LOW = (("far", "jump", "near"), ("a",), 2)
HIGH = (("jump", "next"), ("a", "b"), 3)

# y can't be had, so that no deed crosses from all else.
SHUT = ((("go", ("y",), (), ("z",), (), 4),), (), ("z",))
WALL = ((), (), 1000)


def priced(row, cost):
    return (row[0], row[1], cost)


class Bound(unittest.TestCase):

    def is_bound(self, task, state, value, bound):
        self.assertEqual(cut_bound(task, state, value), bound)
        for least in (0, 1, 2, 3, 5, 9, 10, 999, 1000):
            self.assertIs(shows_cuts(task, state, value, least), bound is not None and least <= bound)

    def test_rows(self):
        self.is_bound(TASK, ("a",), (LOW,), 2)
        self.is_bound(TASK, ("a",), (HIGH,), 3)
        self.is_bound(TASK, ("a",), (LOW, HIGH), 5)
        self.is_bound(TASK, ("a",), (HIGH, LOW), 5)
        self.is_bound(TASK, (), (LOW, HIGH), 5)

    def test_no_rows(self):
        for task in (TASK, SHUT, ((), (), ()), ((), (), ("a",)), (DEEDS, (), ())):
            self.is_bound(task, (), (), 0)
        self.is_bound(TASK, ("c",), (), 0)
        self.is_bound(TASK, ("a", "b", "c", "x"), (), 0)

    def test_the_same_row_twice(self):
        once = priced(LOW, 1)
        self.is_bound(TASK, ("a",), (once, once), 2)
        self.is_bound(TASK, ("a",), (once, once, once), None)
        self.is_bound(TASK, ("a",), (LOW, LOW), None)
        self.is_bound(SHUT, (), (WALL, WALL, WALL), 3000)

    def test_prices_come_to_the_deeds_own_at_most(self):
        self.is_bound(TASK, ("a",), (priced(LOW, 1), priced(LOW, 1)), 2)
        self.is_bound(TASK, ("a",), (priced(LOW, 1), priced(LOW, 2)), None)
        self.is_bound(TASK, ("a",), (priced(LOW, 3),), None)
        self.is_bound(TASK, ("a",), (LOW, priced(HIGH, 4)), None)
        dear = tuple(deed[:5] + (9 if deed[0] in ("far", "near", "next") else deed[5],) for deed in DEEDS)
        for low, high, bound in ((1, 8, 9), (8, 1, 9), (9, 1, None), (1, 9, None)):
            self.is_bound((dear, ("a",), ("c",)), ("a",), (priced(LOW, low), priced(HIGH, high)), bound)

    def test_prices_of_rows(self):
        for cost, bound in ((0, None), (1, 1), (2, 2), (3, None), (1000, None), (1001, None), (-1, None), (True, None),
                            (False, None), (1.0, None), ("1", None), (None, None), ((1,), None), ([1], None)):
            self.is_bound(TASK, ("a",), (priced(LOW, cost),), bound)
        for cost, bound in ((0, None), (1, 1), (2, 2), (999, 999), (1000, 1000), (1001, None), (-1, None),
                            (True, None), (False, None), (LikeAll(), None)):
            self.is_bound(SHUT, (), (priced(WALL, cost),), bound)
        self.is_bound(SHUT, (), (WALL, priced(WALL, 1)), 1001)

    def test_all_that_stands_is_held(self):
        self.is_bound(TASK, ("a", "b"), (LOW,), None)
        self.is_bound(TASK, ("a", "b"), (HIGH,), 3)
        self.is_bound(TASK, ("a", "x"), (LOW,), None)
        self.is_bound(TASK, ("a", "x"), ((LOW[0], ("a", "x"), 2),), 2)
        self.is_bound(TASK, ("x",), (HIGH,), None)
        self.is_bound(TASK, ("a",), (((), (), 1),), None)
        self.is_bound(TASK, (), (((), (), 1),), 1)

    def test_not_all_of_the_wish_is_held(self):
        row = (("far", "idle", "jump", "near", "next", "wipe"), ("a", "b", "c", "x"), 1)
        self.is_bound(TASK, ("a",), (row,), None)
        self.is_bound(TASK, ("c",), (row,), None)
        self.is_bound(TASK, ("a",), ((row[0], ("a", "b", "x"), 1),), 1)
        two = (DEEDS, ("a",), ("b", "c"))
        self.is_bound(two, ("a",), (LOW, HIGH), 5)
        self.is_bound(two, ("a",), ((("near", "next"), ("a", "c"), 1),), None)
        self.is_bound(two, ("a",), ((("far", "jump", "near"), ("a", "c"), 1),), 1)
        self.is_bound((DEEDS, ("a",), ()), ("a",), (LOW,), None)
        self.is_bound(((), (), ()), (), (WALL,), None)

    def test_each_deed_that_crosses_is_named(self):
        for name in LOW[0]:
            self.is_bound(TASK, ("a",), ((tuple(other for other in LOW[0] if other != name), ("a",), 1),), None)
        for name in HIGH[0]:
            self.is_bound(TASK, ("a",), ((tuple(other for other in HIGH[0] if other != name), ("a", "b"), 1),), None)
        self.is_bound(TASK, ("a",), ((tuple(deed[0] for deed in DEEDS), ("a",), 1),), 1)
        self.is_bound(TASK, ("a",), ((("far", "idle", "jump", "near"), ("a",), 1),), 1)
        self.is_bound(TASK, ("a",), ((("far", "idle", "jump", "near"), ("a",), 2),), None)

    def test_a_part_of_the_adds_is_enough_to_cross(self):
        task = ((("go", ("a",), (), ("a", "b"), (), 4),), ("a",), ("b",))
        self.is_bound(task, ("a",), (((), ("a",), 1),), None)
        self.is_bound(task, ("a",), ((("go",), ("a",), 4),), 4)
        task = ((("go", (), ("b",), ("b",), (), 4),), ("a",), ("b",))
        self.is_bound(task, ("a",), (((), ("a",), 1),), None)
        self.is_bound(task, (), ((("go",), (), 3), (("go",), ("a",), 1)), 4)

    def test_bars_and_strikes_are_not_looked_at(self):
        self.is_bound(TASK, ("a", "x"), ((("far", "jump"), ("a", "x"), 1),), None)
        task = ((("go", ("a",), ("x",), ("b",), (), 4),), ("a",), ("b",))
        self.is_bound(task, ("a", "x"), (((), ("a", "x"), 1),), None)

    def test_names(self):
        right = ("far", "jump", "near")
        for names in (right[::-1], right + ("none",), ("far", "far", "jump", "near"), ("",) + right, ("a",) + right,
                      list(right), {"far": 1, "jump": 1, "near": 1}, "far", ("far", "jump", 1), (1, "far"),
                      ("far", "jump", None), ("far", "jump", ["near"]), ("far", ("jump",), "near"), (b"far",) + right,
                      right + (LikeAll(),), (LikeAll(), LikeAll(), LikeAll()), right + (True,), None, True, 3):
            self.is_bound(TASK, ("a",), ((names, ("a",), 1),), None)

    def test_facts(self):
        for some in NO_FACTS + ("ab", ["a", "b"], ("a", "c", "b"), ("a", "far")):
            self.is_bound(TASK, ("a",), ((LOW[0], some, 1),), None)

    def test_any_value(self):
        for value in OTHERS:
            if isinstance(value, LikeAll) or value != ():
                self.is_bound(TASK, ("a",), value, None)
            self.is_bound(TASK, ("a",), (value,), None)
            self.is_bound(TASK, ("a",), (LOW, value), None)
            self.is_bound(TASK, ("a",), ((value, ("a",), 1),), None)
            self.is_bound(TASK, ("a",), ((LOW[0], value, 1),), None)
            if value != 1 or value is True or isinstance(value, LikeAll):
                self.is_bound(TASK, ("a",), ((LOW[0], ("a",), value),), None)
        for value in (LOW, [LOW], {LOW}, {LOW: 1}, (list(LOW),), (LOW[:2],), (LOW + (1,),), ((LOW,),), (LOW, [HIGH])):
            self.is_bound(TASK, ("a",), value, None)

    def test_arguments_are_not_changed(self):
        value = [[["far", "jump", "near"], ["a"], 1]]
        self.assertIsNone(cut_bound(TASK, ("a",), value))
        self.assertIsNone(cut_bound(TASK, ("a",), tuple(value)))
        self.assertEqual(value, [[["far", "jump", "near"], ["a"], 1]])


class Shows(unittest.TestCase):

    def test_bounds(self):
        for value in ((LOW,), (), None, [LOW]):
            for bound in NO_BOUNDS:
                with self.assertRaises(BadNumber):
                    shows_cuts(TASK, ("a",), value, bound)
        self.assertIs(shows_cuts(TASK, ("a",), (LOW, HIGH), 5), True)
        self.assertIs(shows_cuts(TASK, ("a",), (LOW, HIGH), 6), False)
        self.assertIs(shows_cuts(TASK, ("a",), (), 0), True)
        self.assertIs(shows_cuts(TASK, ("a",), (), 1), False)
        self.assertIs(shows_cuts(TASK, ("a",), None, 0), False)
        self.assertIs(shows_cuts(SHUT, (), (WALL,), 1000), True)
        self.assertIs(shows_cuts(SHUT, (), (priced(WALL, 999),), 1000), False)
        self.assertIs(shows_cuts(SHUT, (), (WALL, WALL), 1000), True)

    def test_errors_come_in_the_order_of_the_arguments(self):
        for value in OTHERS:
            for call in (lambda: cuts(value, None), lambda: cut_bound(value, None, None),
                         lambda: shows_cuts(value, None, None, None)):
                with self.assertRaises(BadTask):
                    call()
        for state in NO_FACTS:
            for call in (lambda: cuts(TASK, state), lambda: cut_bound(TASK, state, (LOW,)),
                         lambda: shows_cuts(TASK, state, None, None), lambda: shows_cuts(TASK, state, (LOW,), 1)):
                with self.assertRaises(BadState):
                    call()


class Cuts(unittest.TestCase):

    def test_they_come_to_the_first_price(self):
        for state, least in ((("a",), 5), (("b",), 3), (("a", "b"), 3), (("c",), 0), (("a", "x"), 5)):
            self.assertGreaterEqual(cut_bound(TASK, state, cuts(TASK, state)), least)
            self.assertEqual(first_price(TASK, state), least)
            self.assertIs(shows_cuts(TASK, state, cuts(TASK, state), least), True)

    def test_the_wish_can_not_be_had(self):
        self.assertIsNone(cuts(TASK, ()))
        self.assertIsNone(cuts(SHUT, ()))
        self.assertIsNone(cuts(((), (), ("a",)), ()))

    def test_an_empty_wish_and_no_deeds(self):
        for task in (((), (), ()), (DEEDS, (), ())):
            self.assertEqual(cut_bound(task, (), cuts(task, ())), 0)
        self.assertEqual(cut_bound(((), (), ("a",)), ("a",), cuts(((), (), ("a",)), ("a",))), 0)

    def test_an_empty_beginning(self):
        task = ((("go", (), (), ("a",), (), 7), ("on", ("a",), (), ("b",), (), 6)), (), ("a", "b"))
        self.assertEqual(cut_bound(task, (), cuts(task, ())), 13)

    def test_the_longest_chain(self):
        signs = tuple("abcdefghij")
        deeds = tuple(("to " + behind, (ahead,), (), (behind,), (ahead,), 9) for ahead, behind in zip(signs, signs[1:]))
        task = (deeds, ("a",), ("j",))
        self.assertEqual(cut_bound(task, ("a",), cuts(task, ("a",))), 81)

    def test_very_many_rows(self):
        begun = time.monotonic()
        self.assertEqual(cut_bound(SHUT, (), (WALL,) * 50000), 50000000)
        self.assertIsNone(cut_bound(TASK, ("a",), (LOW,) * 50000))
        self.assertLess(time.monotonic() - begun, 20)


class Random(unittest.TestCase):

    def drawn_rows(self, task, state, chance):
        """Rows that are often cuts: of a state, facts that hold it, and the names that cross or a few others."""
        rows = []
        for _ in range(chance.randint(1, 3)):
            some = {*state, *[sign for sign in slow_bounds.facts_of(task) if chance.random() < 0.2]}
            if chance.random() < 0.1:
                some -= {*state[:1]}
            names = {deed[0] for deed in task[0] if some.issuperset(deed[1]) and not some.issuperset(deed[3])}
            if names and chance.random() < 0.2:
                names -= {min(names)}
            if task[0] and chance.random() < 0.2:
                names |= {chance.choice(task[0])[0]}
            rows.append((tuple(sorted(names)), tuple(sorted(some)), chance.choice((1, 1, 1, 2, 3))))
        return tuple(rows)

    def test_beside_slow_reckonings(self):
        many = {"cuts": 0, "none": 0, "lacking": 0, "above": 0}
        for seed in range(1000):
            task, chance = slow.random_task(seed), random.Random(seed)
            for state in slow_bounds.some_states(task, chance, 2):
                least = slow_bounds.first_price(task, state)
                value = cuts(task, state)
                many["lacking"] += value is None
                if least is None:
                    self.assertIsNone(value)
                else:
                    self.assertGreaterEqual(slow_bounds.cut_bound(task, state, value), least)
                    self.assertTrue(shows_cuts(task, state, value, least))
                    many["above"] += least > 2
                rows = self.drawn_rows(task, state, chance) + (value or ())[:1]
                bound = cut_bound(task, state, rows)
                self.assertEqual(bound, slow_bounds.cut_bound(task, state, rows))
                many["none" if bound is None else "cuts"] += 1
                if bound is not None and price_left(task, state) is not None:
                    self.assertLessEqual(bound, price_left(task, state))
        for kind in many:
            self.assertGreater(many[kind], 100, kind)


class Example(unittest.TestCase):

    def test_the_example_of_the_interface(self):
        task = task_of(sample('lift'))
        row = (('leave ann high',), ('at ann low', 'inside ann', 'lift high', 'lift low'), 1)
        told = [cut_bound(task, task[1], (row,)), cut_bound(task, task[1], (row, row)),
                cut_bound(task, task[1], cuts(task, task[1])) >= 4, shows_cuts(task, task[1], (row,), 2)]
        self.assertEqual(told, [1, None, True, False])


if __name__ == "__main__":
    unittest.main()
