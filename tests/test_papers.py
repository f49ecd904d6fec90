"""Points 10 to 12: papers of never, papers of a bound, and what is solved."""

import random
import time
import unittest

import slow
import slow_bounds
import slow_papers
from test_searching import counter
from wishroads.cuts import cuts
from wishroads.errors import BadNumber, BadTask
from wishroads.pairs import apart
from wishroads.papers import bound_paper, never_paper, shows_bound, shows_never, shows_solved, solved
from wishroads.searching import first_plan, least_price, states_met
from wishroads.tasks import is_plan, price
from wishroads.worlds import sample, task_of
from wrong import NO_BOUNDS, NO_FACTS, OTHERS, WRONG_TASKS, LikeAll

# From a to c by b, for 5 at least.
DEEDS = (
    ("far", ("a",), ("b",), ("b",), ("a",), 2),
    ("next", ("b",), ("c",), ("c",), ("b",), 3),
)
TASK = (DEEDS, ("a",), ("c",))
CUTS = ((("far",), ("a",), 2), (("next",), ("a", "b"), 3))
WEIGHTS = (("a", 5), ("b", 3))
TABLE = ((("a",), 5), (("b",), 3))

# a and b can be had, but never together, and c never.
SHUT = (
    (
        ("go", ("a",), (), ("b",), ("a",), 1),
        ("turn", ("b",), (), ("a",), ("b",), 1),
        ("wait", ("c",), (), ("c",), (), 1),
    ),
    ("a",),
    ("a", "b"),
)
FAR = (SHUT[0], ("a",), ("c",))
EMPTY = ((), (), ())

# Values that are no integer from 0 to 100000.
NO_GREAT_BOUNDS = [value for value in NO_BOUNDS if isinstance(value, LikeAll) or value != 1001] + [100001]


def wide():
    """A task of 10 facts and 14 deeds in which all 1024 states are met, and the wish is all facts."""
    signs = tuple("abcdefghij")
    sets = [("set " + sign, (), (), (sign,), (), 1) for sign in signs]
    clears = [("clear " + sign, (), (), (), (sign,), 1) for sign in signs[:4]]
    return (tuple(sorted(sets + clears)), (), signs)


def shut_wide():
    """A task of 10 facts and 14 deeds with 896 states met: of a, b and c two may stand together, never all."""
    signs = tuple("abcdefghij")
    barred = {"a": ("b",), "b": ("c",), "c": ("a",)}
    sets = [("set " + sign, (), barred.get(sign, ()), (sign,), (), 1) for sign in signs]
    clears = [("clear " + sign, (), (), (), (sign,), 1) for sign in signs[:4]]
    return (tuple(sorted(sets + clears)), (), ("a", "b", "c"))


class Never(unittest.TestCase):

    def is_shown(self, shown, task, *papers):
        for paper in papers:
            self.assertIs(shows_never(task, paper), shown, paper)

    def test_facts(self):
        self.is_shown(True, FAR, ("facts", ("a", "b")))
        self.is_shown(False, FAR, ("facts", ("a",)), ("facts", ("b",)), ("facts", ()), ("facts", ("a", "b", "c")),
                      ("facts", ("a", "c")))
        self.is_shown(False, SHUT, ("facts", ("a", "b")), ("facts", ("a", "b", "c")), ("facts", ("a",)))
        self.is_shown(False, TASK, ("facts", ("a",)), ("facts", ("a", "b")), ("facts", ("a", "b", "c")))
        self.is_shown(False, TASK, ("facts", ()))

    def test_facts_hold_the_beginning(self):
        deeds = (("go", ("a",), (), ("b",), (), 1),)
        self.is_shown(True, (deeds, (), ("b",)), ("facts", ()))
        self.is_shown(False, (deeds, ("a",), ("b",)), ("facts", ()), ("facts", ("a",)))
        self.is_shown(True, (deeds, (), ("a", "b")), ("facts", ()), ("facts", ("b",)))
        self.is_shown(False, (deeds, (), ("a", "b")), ("facts", ("a",)), ("facts", ("a", "b")))

    def test_facts_hold_not_all_of_the_wish(self):
        two = ((), ("a",), ("a", "b"))
        self.is_shown(True, two, ("facts", ("a",)))
        self.is_shown(False, two, ("facts", ("a", "b")), ("facts", ("b",)))
        self.is_shown(False, EMPTY, ("facts", ()))
        self.is_shown(False, (DEEDS, (), ()), ("facts", ()), ("facts", ("a", "b", "c")))

    def test_facts_hold_all_adds(self):
        deeds = (("go", ("a",), ("x",), ("b", "d"), ("a",), 1),)
        task = (deeds, ("a",), ("w",))
        self.is_shown(True, task, ("facts", ("a", "b", "d")), ("facts", ("a", "b", "d", "x")))
        self.is_shown(False, task, ("facts", ("a", "b")), ("facts", ("a", "d")), ("facts", ("a",)),
                      ("facts", ("a", "x")))
        free = ((("go", (), (), ("b",), (), 1),), (), ("w",))
        self.is_shown(True, free, ("facts", ("b",)))
        self.is_shown(False, free, ("facts", ()))

    def test_pairs(self):
        self.is_shown(True, SHUT, ("pairs", (("a", "b"),)), ("pairs", (("a", "b"), ("c", "c"))), ("pairs", apart(SHUT)))
        self.is_shown(True, FAR, ("pairs", (("c", "c"),)), ("pairs", (("a", "b"), ("c", "c"))))
        self.is_shown(False, FAR, ("pairs", (("a", "b"),)), ("pairs", (("a", "c"),)), ("pairs", ()))
        self.is_shown(False, SHUT, ("pairs", (("c", "c"),)), ("pairs", ()), ("pairs", (("a", "a"), ("a", "b"))),
                      ("pairs", (("a", "b"), ("b", "b"))))
        self.is_shown(False, TASK, ("pairs", apart(TASK)), ("pairs", (("c", "c"),)), ("pairs", ()))

    def test_pairs_of_one_fact_with_itself_are_in_the_wish(self):
        both = (FAR[0], ("a",), ("b", "c"))
        self.is_shown(True, both, ("pairs", (("c", "c"),)), ("pairs", (("b", "c"), ("c", "c"))))
        one = (FAR[0], ("a",), ("b",))
        self.is_shown(False, one, ("pairs", (("c", "c"),)), ("pairs", (("a", "b"), ("b", "c"), ("c", "c"))))

    def test_states(self):
        self.is_shown(True, SHUT, ("states", (("a",), ("b",))), ("states", ((), ("a",), ("b",))),
                      ("states", ((), ("a",), ("a", "c"), ("b",), ("b", "c"), ("c",))))
        self.is_shown(True, FAR, ("states", (("a",), ("b",))))
        self.is_shown(True, FAR, ("states", (("a",), ("a", "b"), ("b",))))
        self.is_shown(True, FAR, ("states", ((), ("a",), ("a", "b"), ("b",))))

    def test_states_out_of_which_a_deed_leads(self):
        self.is_shown(False, SHUT, ("states", (("a",),)), ("states", (("a",), ("b",), ("b", "c"))),
                      ("states", (("a",), ("a", "c"), ("b",))))
        self.is_shown(False, TASK, ("states", (("a",),)), ("states", (("a",), ("b",))))
        barred = ((("go", ("a",), ("x",), ("c",), (), 1),), ("a", "x"), ("c",))
        self.is_shown(True, barred, ("states", (("a", "x"),)))
        self.is_shown(False, barred, ("states", (("a",), ("a", "x"))))

    def test_states_with_the_beginning_and_without_the_wish(self):
        self.is_shown(False, SHUT, ("states", ()), ("states", ((),)), ("states", (("c",),)), ("states", (("b",),)))
        self.is_shown(False, TASK, ("states", (("a",), ("b",), ("c",))), ("states", (("c",),)))
        self.is_shown(False, SHUT, ("states", (("a",), ("a", "b"), ("b",))))
        self.is_shown(False, EMPTY, ("states", ((),)), ("states", ()))
        self.is_shown(True, ((), (), ("a",)), ("states", ((),)))
        self.is_shown(False, ((), (), ("a",)), ("states", ((), ("a",))), ("states", (("a",),)), ("states", ()))

    def test_states_ascending_and_unlike(self):
        self.is_shown(False, SHUT, ("states", (("b",), ("a",))), ("states", (("a",), ("a",), ("b",))),
                      ("states", (("a",), ("b",), ("b",))), ("states", (("a",), ("b",), ("a",))),
                      ("states", (("a",), ("b",), ())), ("states", [("a",), ("b",)]), ("states", (["a"], ["b"])))
        self.is_shown(False, SHUT, ("states", (("a",), ("b",), ("none",))), ("states", (("a",), ("b",), ("c", "b"))),
                      ("states", ("a", "b")), ("states", (("a",), ("b",), ("b", "b"))))

    def test_any_value(self):
        for task in (SHUT, FAR, TASK, EMPTY):
            self.is_shown(False, task, *OTHERS, *[(value,) for value in OTHERS])
            for word in ("facts", "pairs", "states"):
                for value in OTHERS:
                    self.is_shown(False, task, (word, value), (word, (value,)), (word, (("a",), ("b",), value)),
                                  (word, (("a", "b"), value)), (word, ("a", "b", value)), (word, (value, value)))
        for value in NO_FACTS:
            self.is_shown(False, FAR, ("facts", value), ("states", (("a",), ("b",), value)))

    def test_the_form_of_papers(self):
        for task, paper in ((FAR, ("facts", ("a", "b"))), (SHUT, ("pairs", (("a", "b"),))),
                            (SHUT, ("states", (("a",), ("b",))))):
            word, told = paper
            self.is_shown(True, task, paper)
            self.is_shown(False, task, (word,), (word, told, told), [word, told], (told, word), word, told, (paper,),
                          (word.upper(), told), (word + "s", told), (word[:-1], told), (word.encode(), told),
                          ((word,), told), (LikeAll(), told), (None, told), (word, list(told)), (word, (told,)),
                          {word: told}, ("", told), ("cuts", told), ("table", told), ("never", paper), (word, None),
                          (word, told, ()), ("states" if word == "facts" else "facts", told))

    def test_wrong_tasks(self):
        for value, word in WRONG_TASKS:
            for call in (lambda: never_paper(value), lambda: shows_never(value, None),
                         lambda: shows_never(value, ("facts", ())), lambda: shows_never(value, ("states", ((),)))):
                with self.assertRaises(BadTask) as caught:
                    call()
                self.assertEqual(caught.exception.word, word)
        for value in OTHERS:
            with self.assertRaises(BadTask):
                shows_never(value, None)

    def test_paper(self):
        for task in (SHUT, FAR, ((), (), ("a",)), ((), ("a",), ("a", "b")), (DEEDS, (), ("c",))):
            self.assertIs(shows_never(task, never_paper(task)), True)
            self.assertTrue(slow_papers.shows_never(task, never_paper(task)))
        for task in (TASK, EMPTY, (DEEDS, (), ()), ((), ("a",), ("a",)), wide(), counter(10)):
            self.assertIsNone(never_paper(task))


class Bound(unittest.TestCase):

    def is_bound(self, task, paper, bound):
        """Whether the paper shows bounds up to this one, and none above; no bound at all for None."""
        most = min(bound or 0, 99999)
        for least in {0, 1, 2, 3, 5, 1000, 1001, 99999, 100000, most, most + 1}:
            self.assertIs(shows_bound(task, paper, least), bound is not None and least <= bound, (paper, least))

    def test_bounds(self):
        for paper in (("cuts", CUTS), ("weights", 0, ()), ("table", TABLE), ("cuts", ()), None, (), [1], LikeAll()):
            for bound in NO_GREAT_BOUNDS:
                with self.assertRaises(BadNumber):
                    shows_bound(TASK, paper, bound)
        for bound, shown in ((0, True), (1, True), (5, True), (6, False), (1000, False), (1001, False), (99999, False),
                             (100000, False)):
            self.assertIs(shows_bound(TASK, ("table", TABLE), bound), shown)
            self.assertIs(shows_bound(TASK, ("cuts", CUTS), bound), shown)

    def test_cuts(self):
        self.is_bound(TASK, ("cuts", CUTS), 5)
        self.is_bound(TASK, ("cuts", CUTS[:1]), 2)
        self.is_bound(TASK, ("cuts", CUTS[1:]), 3)
        self.is_bound(TASK, ("cuts", ()), 0)
        self.is_bound(TASK, ("cuts", cuts(TASK, ("a",))), 5)
        self.is_bound(EMPTY, ("cuts", ()), 0)
        self.is_bound(TASK, ("cuts", CUTS + CUTS[:1]), None)
        self.is_bound(TASK, ("cuts", ((("far",), ("a",), 3),)), None)
        self.is_bound(TASK, ("cuts", (((), ("a",), 1),)), None)
        self.is_bound(TASK, ("cuts", ((("next",), ("b",), 1),)), None)
        self.is_bound((DEEDS, ("b",), ("c",)), ("cuts", ((("next",), ("b",), 1),)), 1)

    def test_cuts_above_1000(self):
        wall = ((), (), 1000)
        task = ((), (), ("a",))
        self.is_bound(task, ("cuts", (wall,)), 1000)
        self.is_bound(task, ("cuts", (wall, ((), (), 1))), 1001)
        self.is_bound(task, ("cuts", (wall,) * 2), 2000)
        self.is_bound(task, ("cuts", (wall,) * 100), 100000)
        self.is_bound(task, ("cuts", (wall,) * 101), 101000)
        self.is_bound(task, ("cuts", (wall,) * 99 + (((), (), 999),)), 99999)

    def test_weights(self):
        self.is_bound(TASK, ("weights", -3, WEIGHTS), None)
        self.is_bound(TASK, ("weights", 5, (("b", -2), ("c", -5))), 5)
        self.is_bound(TASK, ("weights", 6, (("b", -2), ("c", -5))), None)
        self.is_bound(TASK, ("weights", 4, (("b", -2), ("c", -5))), 4)
        self.is_bound(TASK, ("weights", 5, (("b", -2), ("c", -6))), None)
        self.is_bound(TASK, ("weights", 3, (("c", -3),)), 3)
        self.is_bound(TASK, ("weights", 0, ()), 0)
        self.is_bound(TASK, ("weights", 1, ()), None)
        self.is_bound(EMPTY, ("weights", 0, ()), 0)
        self.is_bound(((), ("x",), ("a",)), ("weights", 996, (("a", -1000), ("x", 4))), 1000)
        self.is_bound(((), ("x",), ("a",)), ("weights", 0, (("a", -1000), ("x", 1000))), 1000)

    def test_the_worth_of_the_beginning_may_be_below_0(self):
        self.is_bound(TASK, ("weights", -1, ()), None)
        self.is_bound(TASK, ("weights", -1000, ()), None)
        self.is_bound(TASK, ("weights", 0, (("a", -1),)), None)
        self.is_bound(((), ("a",), ("b",)), ("weights", 2, (("a", -2), ("b", -2))), 0)
        self.is_bound(((), ("a",), ("b",)), ("weights", 2, (("a", -3), ("b", -2))), None)

    def test_weights_above_1000(self):
        signs = tuple("abcdefghij")
        weights = tuple((sign, 1000 if sign < "f" else -1000) for sign in signs)
        self.is_bound(((), signs[:5], signs), ("weights", 0, weights), 5000)

    def test_weights_of_wrong_kinds(self):
        for start in (1001, -1001, True, False, None, "0", 0.0, (), [0], LikeAll()):
            self.is_bound(TASK, ("weights", start, (("c", -3),)), None)
        for value in (None, [], [("c", -3)], (["c", -3],), (("c", 0),), (("c", True),), (("c", -1001),), (("none", -3),),
                      (("c", -3), ("c", -3)), (("c", -3), ("b", -1)), (("c",),), ("c", -3), LikeAll(), (LikeAll(),)):
            self.is_bound(TASK, ("weights", 0, value), None)

    def test_table(self):
        self.is_bound(TASK, ("table", TABLE), 5)
        self.is_bound(TASK, ("table", ((("a",), 2),)), 2)
        self.is_bound(TASK, ("table", ((("a",), 4), (("b",), 2))), 4)
        self.is_bound(TASK, ("table", ((("a",), 4), (("b",), 3))), 4)
        self.is_bound(TASK, ("table", ()), 0)
        self.is_bound(TASK, ("table", ((("b",), 3),)), 0)
        self.is_bound(TASK, ("table", ((("a",), 0),)), 0)
        self.is_bound(EMPTY, ("table", ()), 0)
        self.is_bound(EMPTY, ("table", (((), 0),)), 0)
        self.is_bound(TASK, ("table", TABLE + ((("c",), 0),)), 5)

    def test_numbers_that_are_too_great(self):
        self.is_bound(TASK, ("table", ((("a",), 6), (("b",), 3))), None)
        self.is_bound(TASK, ("table", ((("a",), 5), (("b",), 2))), None)
        self.is_bound(TASK, ("table", ((("a",), 6), (("b",), 4))), None)
        self.is_bound(TASK, ("table", ((("b",), 4),)), None)
        self.is_bound(TASK, ("table", ((("a",), 5),)), None)
        self.is_bound(TASK, ("table", ((("a",), 3),)), None)

    def test_a_state_with_the_wish_has_0(self):
        self.is_bound(TASK, ("table", TABLE + ((("c",), 1),)), None)
        self.is_bound(TASK, ("table", ((("a",), 5), (("a", "c"), 1), (("b",), 3))), None)
        self.is_bound(TASK, ("table", ((("a",), 5), (("a", "c"), 0), (("b",), 3), (("c",), 0))), 5)
        self.is_bound(EMPTY, ("table", (((), 1),)), None)
        self.is_bound((DEEDS, ("c",), ("c",)), ("table", ((("c",), 1),)), None)
        self.is_bound((DEEDS, ("c",), ("c",)), ("table", ((("c",), 0),)), 0)
        on = (DEEDS + (("on", ("c",), (), ("d",), ("c",), 1),), ("a",), ("c",))
        self.is_bound(on, ("table", TABLE), 5)

    def test_states_without_a_way(self):
        self.is_bound(TASK, ("table", (((), 100000),) + TABLE), 5)
        trap = (DEEDS + (("trap", ("a",), (), ("t",), ("a",), 1),), ("a",), ("c",))
        self.is_bound(trap, ("table", TABLE), None)
        self.is_bound(trap, ("table", TABLE + ((("t",), 3),)), None)
        for number in (4, 5, 100000):
            self.is_bound(trap, ("table", TABLE + ((("t",), number),)), 5)
        self.is_bound(SHUT, ("table", ((("a",), 100000), (("b",), 100000))), 100000)
        self.is_bound(SHUT, ("table", ((("a",), 100000), (("b",), 99999))), 100000)
        self.is_bound(SHUT, ("table", ((("a",), 100000), (("b",), 99998))), None)
        self.is_bound(SHUT, ("table", ((("a",), 100000),)), None)
        self.is_bound(SHUT, ("table", ((("a",), 1),)), 1)

    def test_numbers_of_rows(self):
        for number, bound in ((0, 0), (1, 1), (99999, 99999), (100000, 100000), (100001, None), (-1, None), (True, None),
                              (False, None), (1.0, None), ("1", None), (None, None), ((1,), None), ([], None),
                              (LikeAll(), None)):
            self.is_bound(((), (), ("a",)), ("table", (((), number),)), bound)
            # A state that isn't met, and leads nowhere, may have any number that a row may have.
            self.is_bound(TASK, ("table", (((), number),) + TABLE), None if bound is None else 5)

    def test_rows_ascending_and_unlike(self):
        self.is_bound(TASK, ("table", TABLE[::-1]), None)
        self.is_bound(TASK, ("table", TABLE[:1] + TABLE), None)
        self.is_bound(TASK, ("table", TABLE + TABLE[1:]), None)
        self.is_bound(TASK, ("table", ((("a",), 5), (("b",), 2), (("b",), 3))), None)
        self.is_bound(TASK, ("table", ((("a",), 5), (("b",), 3), (("a",), 5))), None)
        self.is_bound(TASK, ("table", ((("a",), 5), (("b",), 3), ((), 0))), None)

    def test_any_value(self):
        for value in OTHERS:
            self.is_bound(TASK, value, None)
            for word in ("cuts", "weights", "table"):
                self.is_bound(TASK, (word, (value,)), None)
                self.is_bound(TASK, (word, (value, value)), None)
                self.is_bound(TASK, (word, TABLE + (value,)), None)
                self.is_bound(TASK, (word, TABLE + ((value, 0),)), None)
                if isinstance(value, LikeAll) or value != ():
                    self.is_bound(TASK, (word, value), None)
                    self.is_bound(TASK, ("weights", 0, value), None)
        for value in NO_FACTS:
            self.is_bound(TASK, ("table", TABLE + ((value, 0),)), None)
            self.is_bound(TASK, ("table", ((value, 0),)), None)

    def test_the_form_of_papers(self):
        for paper in (("cuts", CUTS), ("table", TABLE), ("weights", 3, (("c", -3),))):
            word, *told = paper
            self.assertIs(shows_bound(TASK, paper, 3), True)
            for value in ((word,), (word, *told, *told), (word, *told, ()), list(paper), (*told, word), word, tuple(told),
                          (paper,), (word.upper(), *told), (word[:-1], *told), (word.encode(), *told),
                          ((word,), *told), (LikeAll(), *told), (None, *told), (word, *told[:-1], list(told[-1])),
                          (word, *told[:-1], told[-1:]), {word: told}, ("facts", *told), ("plan", *told)):
                self.is_bound(TASK, value, None)
        self.is_bound(TASK, ("weights", (("c", -3),), 3), None)
        self.is_bound(TASK, ("weights", (("c", -3),)), None)
        self.is_bound(TASK, ("table", 0, ()), None)

    def test_errors_come_in_the_order_of_the_arguments(self):
        for value, word in WRONG_TASKS:
            for call in (lambda: bound_paper(value), lambda: shows_bound(value, None, None),
                         lambda: shows_bound(value, ("table", ()), 0), lambda: shows_bound(value, ("cuts", ()), -1)):
                with self.assertRaises(BadTask) as caught:
                    call()
                self.assertEqual(caught.exception.word, word)
        for value in OTHERS:
            with self.assertRaises(BadTask):
                shows_bound(value, None, None)

    def test_paper(self):
        for task, least in ((TASK, 5), (EMPTY, 0), (((), ("a",), ("a",)), 0), ((DEEDS, (), ()), 0),
                            ((DEEDS, ("b",), ("c",)), 3), (counter(3), 7)):
            self.assertIs(shows_bound(task, bound_paper(task), least), True)
            self.assertIs(shows_bound(task, bound_paper(task), least + 1), False)
            self.assertTrue(slow_papers.shows_bound(task, bound_paper(task), least))
        for task in (SHUT, FAR, ((), (), ("a",)), (DEEDS, (), ("c",))):
            self.assertIsNone(bound_paper(task))

    def test_paper_beside_a_trap(self):
        trap = (DEEDS + (("trap", ("a",), (), ("t",), ("a",), 1), ("turn", ("t",), (), ("u",), ("t",), 1)), ("a",), ("c",))
        self.assertIs(shows_bound(trap, bound_paper(trap), 5), True)
        self.assertIs(shows_bound(trap, bound_paper(trap), 6), False)


class Solved(unittest.TestCase):

    def test_plans(self):
        for paper in (("table", TABLE), ("cuts", CUTS), ("weights", 5, (("b", -2), ("c", -5)))):
            self.assertIs(shows_solved(TASK, ("plan", ("far", "next"), paper)), True)
            for names in (("far",), ("next",), (), ("next", "far"), ("far", "next", "far"), ["far", "next"], None, "far",
                          ("far", "none"), ("far", None), (("far", "next"),), LikeAll(), ("far", LikeAll())):
                self.assertIs(shows_solved(TASK, ("plan", names, paper)), False)
        for paper in (("table", ((("a",), 4), (("b",), 3))), ("cuts", CUTS[:1]), ("weights", 4, (("b", -2), ("c", -5))),
                      ("table", ()), ("table", TABLE + ((("c",), 1),)), None, (), (TABLE,), TABLE):
            self.assertIs(shows_solved(TASK, ("plan", ("far", "next"), paper)), False)

    def test_plans_that_cost_more_than_the_least(self):
        idle = (DEEDS + (("wait", (), (), (), (), 1),), ("a",), ("c",))
        self.assertTrue(is_plan(idle, ("far", "wait", "next")))
        self.assertIs(shows_solved(idle, ("plan", ("far", "next"), ("table", TABLE))), True)
        self.assertIs(shows_solved(idle, ("plan", ("far", "wait", "next"), ("table", TABLE))), False)
        self.assertIs(shows_solved(idle, ("plan", ("far", "wait", "next"), ("table", ((("a",), 6), (("b",), 3))))), False)

    def test_plans_above_all_bounds(self):
        task = ((("stay", (), (), (), (), 9),), (), ())
        for many in (1, 11111, 11112, 30000):
            self.assertTrue(is_plan(task, ("stay",) * many))
            for paper in (("table", ()), ("table", (((), 0),)), ("cuts", ()), None, ("table", (((), 100000),))):
                self.assertIs(shows_solved(task, ("plan", ("stay",) * many, paper)), False)

    def test_the_empty_plan(self):
        for task in (EMPTY, ((), ("a",), ("a",)), (DEEDS, ("a",), ())):
            for paper in (("table", ()), ("cuts", ()), ("weights", 0, ())):
                self.assertIs(shows_solved(task, ("plan", (), paper)), True)
            self.assertIs(shows_solved(task, ("plan", (), ("weights", -1, ()))), False)
            self.assertIs(shows_solved(task, ("plan", (), None)), False)
            self.assertEqual(solved(task)[:2], ("plan", ()))
            self.assertIs(shows_solved(task, solved(task)), True)

    def test_never(self):
        for task, paper in ((FAR, ("facts", ("a", "b"))), (SHUT, ("pairs", (("a", "b"),))),
                            (SHUT, ("states", (("a",), ("b",))))):
            self.assertIs(shows_solved(task, ("never", paper)), True)
            self.assertIs(shows_solved(TASK, ("never", paper)), False)
            for value in (paper, ("never", *paper), ("never", (paper,)), ("never", list(paper)), ["never", paper],
                          ("never", paper, ()), ("never",), ("plan", paper), ("plan", (), paper), ("Never", paper),
                          (LikeAll(), paper), ("never", ("never", paper)), ("never", None), ("never", ())):
                self.assertIs(shows_solved(task, value), False)

    def test_the_form(self):
        right = ("plan", ("far", "next"), ("table", TABLE))
        self.assertIs(shows_solved(TASK, right), True)
        for value in (list(right), right[:2], right + ((),), right[1:], right[::-1], ("never", *right[1:]), (right,),
                      ("Plan", *right[1:]), (b"plan", *right[1:]), (("plan",), *right[1:]), (LikeAll(), *right[1:]),
                      (None, *right[1:]), ("plan", right[2], right[1]), ("plan", right[1], list(right[2])),
                      ("plan", right[1], *right[2])):
            self.assertIs(shows_solved(TASK, value), False)

    def test_any_value(self):
        for task in (TASK, SHUT, EMPTY):
            for value in OTHERS:
                for told in (value, (value,), ("plan", value), ("never", value), ("plan", value, value),
                             ("plan", ("far", "next"), value), ("plan", (value,), ("table", TABLE)),
                             ("never", (value, value)), ("never", ("states", value))):
                    self.assertIs(shows_solved(task, told), False)

    def test_wrong_tasks(self):
        for value, word in WRONG_TASKS:
            for call in (lambda: solved(value), lambda: shows_solved(value, None),
                         lambda: shows_solved(value, ("plan", (), ("table", ()))),
                         lambda: shows_solved(value, ("never", ("states", ((),))))):
                with self.assertRaises(BadTask) as caught:
                    call()
                self.assertEqual(caught.exception.word, word)
        for value in OTHERS:
            for call in (lambda: solved(value), lambda: never_paper(value), lambda: bound_paper(value)):
                with self.assertRaises(BadTask):
                    call()

    def test_solved(self):
        for task in (TASK, SHUT, FAR, EMPTY, (DEEDS, (), ("c",)), ((), (), ("a",)), counter(4)):
            found = solved(task)
            self.assertIs(shows_solved(task, found), True)
            self.assertEqual(found[0], "never" if first_plan(task) is None else "plan")

    def test_arguments_are_not_changed(self):
        value = ["plan", ["far", "next"], ["table", [[["a"], 5]]]]
        self.assertIs(shows_solved(TASK, value), False)
        self.assertIs(shows_solved(TASK, tuple(value)), False)
        self.assertIs(shows_bound(TASK, tuple(value[2]), 5), False)
        self.assertEqual(value, ["plan", ["far", "next"], ["table", [[["a"], 5]]]])


class Greatest(unittest.TestCase):
    """The greatest tasks that the limits allow, and papers far beyond, are answered quickly."""

    def test_greatest_tasks(self):
        begun = time.monotonic()
        self.assertEqual([len(states_met(task)) for task in (wide(), counter(10), shut_wide())], [1024, 1024, 896])
        for task, least in ((wide(), 10), (counter(10), 1023), (shut_wide(), None)):
            found = solved(task)
            self.assertIs(shows_solved(task, found), True)
            if least is None:
                self.assertEqual(found[0], "never")
                self.assertIs(shows_never(task, never_paper(task)), True)
                self.assertIs(shows_never(task, ("pairs", apart(task))), False)
            else:
                self.assertEqual(price(task, found[1]), least)
                self.assertIs(shows_bound(task, bound_paper(task), least), True)
                self.assertIs(shows_bound(task, bound_paper(task), least + 1), False)
        self.assertLess(time.monotonic() - begun, 10)

    def test_dear_deeds(self):
        deeds, begin, wish = counter(10)
        task = (tuple(deed[:5] + (9,) for deed in deeds), begin, wish)
        self.assertEqual(least_price(task), 9207)
        self.assertIs(shows_solved(task, solved(task)), True)
        self.assertIs(shows_bound(task, bound_paper(task), 9208), False)

    def test_very_long_papers(self):
        begun = time.monotonic()
        for paper in (("states", (("a",),) * 50000), ("table", ((("a",), 0),) * 50000), ("cuts", CUTS * 20000),
                      ("weights", 0, (("c", -1),) * 50000), ("pairs", (("a", "b"),) * 50000), ("facts", ("a",) * 50000)):
            self.assertIs(shows_never(SHUT, paper), False)
            self.assertIs(shows_bound(TASK, paper, 0), False)
        self.assertLess(time.monotonic() - begun, 20)


class Random(unittest.TestCase):

    def drawn_never(self, task, chance):
        """Papers that are often ones of never, or almost."""
        signs = slow_bounds.facts_of(task)
        some = {sign for sign in signs if chance.random() < 0.3} | set(slow_bounds.had(task, task[1]))
        if some and chance.random() < 0.3:
            some -= {chance.choice(sorted(some))}
        pairs = [pair for pair in slow_bounds.all_pairs(task) if pair in apart(task) or chance.random() < 0.05]
        pairs = chance.sample(pairs, chance.randint(len(pairs) // 2, len(pairs)))
        states = {*states_met(task)}
        for state in slow_bounds.some_states(task, chance, chance.choice((0, 0, 1))):
            states |= {tuple(sorted(met)) for met in slow.prices_from(task, frozenset(state))}
        if chance.random() < 0.2:
            states -= {chance.choice(sorted(states))}
        return (("facts", tuple(sorted(some))), ("pairs", tuple(sorted(pairs))), ("states", tuple(sorted(states))))

    def test_never_beside_slow_reckonings(self):
        many = {"facts": 0, "pairs": 0, "states": 0, "not facts": 0, "not pairs": 0, "not states": 0, "none": 0}
        for seed in range(1500):
            task, chance = slow.random_task(seed), random.Random(seed)
            least = slow.price_left(task, task[1])
            found = never_paper(task)
            self.assertEqual(found is None, least is not None)
            if found is not None:
                self.assertTrue(slow_papers.shows_never(task, found))
                self.assertIs(shows_never(task, found), True)
            many["none"] += found is None
            for paper in self.drawn_never(task, chance):
                shown = shows_never(task, paper)
                self.assertIs(shown, slow_papers.shows_never(task, paper))
                self.assertFalse(shown and least is not None)
                many[paper[0] if shown else "not " + paper[0]] += 1
        for kind in many:
            self.assertGreater(many[kind], 50, kind)

    def drawn_bound(self, task, chance):
        """Papers that are often ones of some bound, or almost."""
        rows = list(cuts(task, task[1]) or ())
        if rows and chance.random() < 0.3:
            names, some, cost = rows.pop()
            rows.append((names, some, cost + 1))
        weights = []
        for fact in slow_bounds.facts_of(task):
            if chance.random() < 0.6:
                weights.append((fact, chance.choice((-3, -2, -1, 1, 1)) if fact in task[2] else chance.choice((-1, 1))))
        start = chance.choice((0, 0, -1, 1)) - sum(weight if fact in task[2] else max(weight, 0)
                                                   for fact, weight in weights)
        table = []
        for state in slow_bounds.subsets(slow_bounds.facts_of(task)):
            left = slow.price_left(task, state)
            if chance.random() < 0.98:
                table.append((state, (9 if left is None else left) + chance.choice((0,) * 40 + (1, 2))))
        return (("cuts", tuple(rows)), ("weights", start, tuple(weights)), ("table", tuple(sorted(table))))

    def test_bounds_beside_slow_reckonings(self):
        many = {"cuts": 0, "weights": 0, "table": 0, "not cuts": 0, "not weights": 0, "not table": 0, "none": 0}
        for seed in range(800):
            task, chance = slow.random_task(seed), random.Random(seed)
            least = slow.price_left(task, task[1])
            found = bound_paper(task)
            self.assertEqual(found is None, least is None)
            if found is not None:
                self.assertTrue(slow_papers.shows_bound(task, found, least))
                self.assertIs(shows_bound(task, found, least), True)
                self.assertIs(shows_bound(task, found, least + 1), False)
            many["none"] += found is None
            for paper in self.drawn_bound(task, chance):
                for bound in (0, 1, 2, 3, least or 0, (least or 0) + 1):
                    shown = shows_bound(task, paper, bound)
                    self.assertIs(shown, slow_papers.shows_bound(task, paper, bound))
                    self.assertFalse(shown and least is not None and bound > least)
                    many[paper[0] if shown else "not " + paper[0]] += bound > 0
        for kind in many:
            self.assertGreater(many[kind], 50, kind)

    def test_solved(self):
        for seed in range(1500):
            task = slow.random_task(seed)
            least = slow.price_left(task, task[1])
            found = solved(task)
            self.assertIs(shows_solved(task, found), True)
            if least is None:
                self.assertEqual((len(found), found[0]), (2, "never"))
                self.assertTrue(slow_papers.shows_never(task, found[1]))
            else:
                self.assertEqual((len(found), found[0]), (3, "plan"))
                self.assertTrue(slow_papers.leads(task, task[1], found[1]))
                self.assertEqual(price(task, found[1]), least)
                self.assertTrue(slow_papers.shows_bound(task, found[2], least))


class Example(unittest.TestCase):

    def test_the_example_of_the_interface(self):
        task = task_of(sample('keys'))
        shut = (tuple([deed for deed in task[0] if deed[0] != 'take']), task[1], task[2])
        told = [shows_bound(task, bound_paper(task), 8), shows_bound(task, bound_paper(task), 9), never_paper(task),
                shows_never(shut, ('facts', ('in cell', 'in hall'))), shows_solved(shut, solved(shut)), solved(shut)[0]]
        self.assertEqual(told, [True, False, None, True, True, 'never'])


if __name__ == "__main__":
    unittest.main()
