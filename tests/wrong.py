"""Values of wrong kinds and forms, with which the functions that take any value are asked."""


class LikeAll:
    """A value that is said to be equal to any other."""

    def __eq__(self, other):
        return True


# Values that are neither tuples nor strings nor integers of the kinds asked for.
OTHERS = (None, True, False, 0, 1, 2.0, "", "abc", b"abc", [], {}, set(), object(), [1, [2]], (), ("a", "b", "c"),
          ((),), ([],), ({},), ((), (), (), ()), [(), (), ()], NotImplemented, int, lambda: 0, LikeAll())

WRONG_DEEDS = (("b", (), (), (), (), 1), ("a", (), (), (), (), 1))

# Values that are no tasks, each with the word that tells what is wrong first.
WRONG_TASKS = ((None, "form"), ([], "form"), (((), ()), "form"), (((), (), (), ()), "form"), (([], (), ()), "deeds"),
               ((((),), (), ()), "deeds"), ((WRONG_DEEDS, [], ()), "names"), (((), [], None), "begin"),
               (((), (), ("b", "a")), "wish"), (((), tuple("abcdefghijk"), ()), "facts"))

# Values that are no facts of any task without the fact "none"; "a" and "b" may be some of it.
NO_FACTS = (None, True, False, 0, 1, 2.0, "", "a", b"a", [], ["a"], {}, {"a"}, {"a": 1}, object(), LikeAll(),
            ("none",), ("a", "none"), ("b", "a"), ("a", "a"), ("",), ("f" * 41,), (1,), (True,), (None,), (b"a",),
            (("a",),), (["a"],), ((),), ([],), ({},), (LikeAll(),), ("a", 1), (1, "a"), ("a", None), ("a", ["b"]))

# Values that are no integer from 0 to 1000.
NO_BOUNDS = (-1, 1001, -10 ** 30, 10 ** 30, True, False, None, 0.0, 1.0, "", "1", b"1", (), (1,), [], [1], {}, object(),
             LikeAll())
