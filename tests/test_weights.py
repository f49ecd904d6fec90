"""Point 8: weights, by how much deeds can lower the worth, sound weights and their bound."""

import random
import time
import unittest

import slow
import slow_bounds
import slow_papers
from wishroads.errors import BadNumber, BadState, BadTask
from wishroads.searching import price_left
from wishroads.weights import lost_most, weight_bound
from wishroads.worlds import sample, task_of
from wrong import NO_FACTS, OTHERS, WRONG_TASKS, LikeAll

# From a to c by b: b may be worth 2 less than a, and c 3 less than b.
DEEDS = (
    ("far", ("a",), ("b",), ("b",), ("a",), 2),
    ("next", ("b",), ("c",), ("c",), ("b",), 3),
)
TASK = (DEEDS, ("a",), ("c",))
WEIGHTS = (("a", 5), ("b", 3))
FREE = ((), (), ("a", "b"))

# Values that are no integer from -1000 to 1000.
NO_STARTS = (-1001, 1001, -10 ** 30, 10 ** 30, True, False, None, 0.0, 1.0, "", "1", b"1", (), (1,), [], [1], {},
             object(), LikeAll())

# Values that are no weights of a task with the facts a and b.
NO_WEIGHTS = [value for value in OTHERS if value != ()] + [(value,) for value in OTHERS] + [
    LikeAll(),
    ("a", 1), [("a", 1)], (["a", 1],), (("a",),), (("a", 1, 1),), (("a", 1), 1), (("a", 1), None), (("a", 1), []),
    (("none", 1),), (("a", 1), ("none", 1)), (("", 1),), ((1, "a"),), ((1, 1),), ((None, 1),), ((("a",), 1),),
    ((["a"], 1),), ((b"a", 1),), ((True, 1),), ((LikeAll(), 1),), (LikeAll(), LikeAll()), (("a", LikeAll()),),
    (("a", 0),), (("a", 1001),), (("a", -1001),), (("a", 10 ** 30),), (("a", True),), (("a", False),), (("a", None),),
    (("a", 1.0),), (("a", "1"),), (("a", (1,)),), (("a", [1]),), (("b", 1), ("a", 1)), (("a", 1), ("a", 1)),
    (("a", 1), ("a", 2)), (("a", 2), ("a", 1)), (("a", 1), ("b", 0)), {("a", 1)}, {("a", 1): 1}, {"a": 1}, "a1",
    (("a", 1), ("b", 1), ("b", 2)), (("a", 1), ("b", 1), ("a", 1)), ("a", 1, "b", 1), ((("a", 1),),)]


class Told(unittest.TestCase):
    """What is weights, for any value."""

    def test_no_weights(self):
        for value in NO_WEIGHTS:
            with self.assertRaises(BadNumber):
                lost_most(FREE, value)
            self.assertIsNone(weight_bound(FREE, -1000, value, ()))
            self.assertIsNone(weight_bound(FREE, None, value, None))

    def test_weights(self):
        for value in ((), (("a", 1),), (("b", -1),), (("a", 1000),), (("a", -1000),), (("a", 999), ("b", -999)),
                      (("a", 1), ("b", 1)), (("a", 2), ("b", 1)), (("a", -1), ("b", 1000))):
            self.assertEqual(lost_most(FREE, value), ())
            self.assertIsNotNone(weight_bound(((), (), ()), -1000, (), ()))
            total = sum(weight for _, weight in value)
            if total <= 1000:
                self.assertEqual(weight_bound(FREE, -max(total, 0), value, ()), 0)

    def test_errors_come_in_the_order_of_the_arguments(self):
        for value in OTHERS:
            for call in (lambda: lost_most(value, None), lambda: lost_most(value, ()),
                         lambda: weight_bound(value, 0, (), ()), lambda: weight_bound(value, None, (), ()),
                         lambda: weight_bound(value, 0, None, None)):
                with self.assertRaises(BadTask):
                    call()
        for state in NO_FACTS:
            with self.assertRaises(BadState):
                weight_bound(TASK, 0, (), state)
            with self.assertRaises(BadState):
                weight_bound(TASK, 0, (("c", -1),), state)
            self.assertIsNone(weight_bound(TASK, 1, (), state))
            self.assertIsNone(weight_bound(TASK, None, (), state))
            self.assertIsNone(weight_bound(TASK, 0, None, state))

    def test_the_words_of_wrong_tasks(self):
        for value, word in WRONG_TASKS:
            for call in (lambda: lost_most(value, ()), lambda: weight_bound(value, 0, (), ())):
                with self.assertRaises(BadTask) as caught:
                    call()
                self.assertEqual(caught.exception.word, word)

    def test_arguments_are_not_changed(self):
        value = [["b", 1], ["a", 1]]
        with self.assertRaises(BadNumber):
            lost_most(FREE, value)
        self.assertIsNone(weight_bound(FREE, 0, tuple(value), ()))
        self.assertEqual(value, [["b", 1], ["a", 1]])


class Lost(unittest.TestCase):

    def is_lost(self, deed, weight, lost):
        needs, bars, adds, strikes = [tuple(row) for row in deed]
        task = ((("go", needs, bars, adds, strikes, 1),), (), ("f", "g"))
        self.assertEqual(lost_most(task, (("f", weight),)), (("go", lost),))

    def test_strikes(self):
        for deed, above, below in ((("f", "", "", "f"), 5, -5), (("", "f", "", "f"), 0, 0), (("", "", "", "f"), 5, 0),
                                   (("g", "", "", "f"), 5, 0), (("", "g", "", "f"), 5, 0)):
            self.is_lost(deed, 5, above)
            self.is_lost(deed, -5, below)

    def test_adds(self):
        for deed, above, below in ((("", "f", "f", ""), -5, 5), (("f", "", "f", ""), 0, 0), (("", "", "f", ""), 0, 5),
                                   (("g", "", "f", ""), 0, 5), (("", "g", "f", ""), 0, 5)):
            self.is_lost(deed, 5, above)
            self.is_lost(deed, -5, below)

    def test_neither(self):
        for deed in (("", "", "", ""), ("f", "", "", ""), ("", "f", "", ""), ("f", "g", "g", ""), ("f", "", "", "g")):
            for weight in (5, -5, 1000, -1000):
                self.is_lost(deed, weight, 0)

    def test_several_facts_together(self):
        deed = ("go", ("a", "b"), ("c", "d"), ("c", "e", "g"), ("a", "d", "f"), 1)
        task = ((("first", (), (), (), (), 1), deed), (), ())
        weights = (("a", 100), ("b", 7), ("c", 20), ("d", 9), ("e", -3), ("f", 500), ("g", 8))
        self.assertEqual(lost_most(task, weights), (("first", 0), ("go", 100 - 20 + 3 + 500)))
        turned = tuple((fact, -weight) for fact, weight in weights)
        self.assertEqual(lost_most(task, turned), (("first", 0), ("go", -100 + 20 + 8)))

    def test_all_deeds_are_told(self):
        self.assertEqual(lost_most(TASK, ()), (("far", 0), ("next", 0)))
        self.assertEqual(lost_most(TASK, WEIGHTS), (("far", 2), ("next", 3)))
        self.assertEqual(lost_most(TASK, (("b", -4),)), (("far", 4), ("next", -4)))
        self.assertEqual(lost_most(FREE, (("a", 1),)), ())


class Bound(unittest.TestCase):

    def test_the_worth_of_states(self):
        for state, bound in ((("a",), 5), (("b",), 3), (("c",), 0), ((), 0), (("a", "b"), 8), (("a", "b", "c"), 8)):
            self.assertIsNone(weight_bound(TASK, 0, WEIGHTS, state))
            self.assertEqual(weight_bound(TASK, -8, WEIGHTS, state), max(bound - 8, 0))
        below = (("a", -1), ("b", -3), ("c", -6))
        for state, bound in (((), 6), (("a",), 5), (("b",), 3), (("c",), 0), (("a", "b"), 2), (("a", "b", "c"), 0)):
            self.assertEqual(weight_bound(TASK, 6, below, state), bound)
            self.assertEqual(weight_bound(TASK, 5, below, state), max(bound - 1, 0))
            self.assertIsNone(weight_bound(TASK, 7, below, state))

    def test_no_deed_lowers_it_by_more_than_its_price(self):
        self.assertEqual(weight_bound(TASK, 3, (("c", -3),), ("a",)), 3)
        self.assertIsNone(weight_bound(TASK, 3, (("c", -4),), ("a",)))
        self.assertEqual(weight_bound(TASK, 2, (("b", -2), ("c", -2)), ("a",)), 2)
        self.assertIsNone(weight_bound(TASK, 2, (("b", -3), ("c", -2)), ("a",)))
        self.assertEqual(weight_bound(TASK, -2, (("a", 2),), ("a",)), 0)
        self.assertIsNone(weight_bound(TASK, -3, (("a", 3),), ("a",)))

    def test_start_and_weights_come_to_at_most_0_with_the_wish(self):
        self.assertEqual(weight_bound(TASK, 0, (), ("a",)), 0)
        self.assertIsNone(weight_bound(TASK, 1, (), ("a",)))
        self.assertEqual(weight_bound(FREE, 7, (("a", -3), ("b", -4)), ()), 7)
        self.assertIsNone(weight_bound(FREE, 8, (("a", -3), ("b", -4)), ()))
        self.assertEqual(weight_bound(FREE, -7, (("a", 3), ("b", 4)), ("a", "b")), 0)
        self.assertIsNone(weight_bound(FREE, -6, (("a", 3), ("b", 4)), ("a", "b")))

    def test_weights_above_0_of_other_facts_count_and_those_below_do_not(self):
        task = ((), ("x", "y"), ("a",))
        self.assertEqual(weight_bound(task, 2, (("a", -5), ("x", 3)), ("x",)), 5)
        self.assertIsNone(weight_bound(task, 3, (("a", -5), ("x", 3)), ("x",)))
        self.assertIsNone(weight_bound(task, 1, (("x", -3),), ("y",)))
        self.assertEqual(weight_bound(task, 0, (("x", -3),), ("y",)), 0)
        self.assertEqual(weight_bound(task, 5, (("a", -5), ("x", -3)), ("y",)), 5)
        self.assertEqual(weight_bound(task, 5, (("a", -5), ("x", -3)), ("x",)), 2)

    def test_an_empty_wish(self):
        task = (DEEDS, ("a",), ())
        self.assertEqual(weight_bound(task, 0, (), ("a",)), 0)
        self.assertIsNone(weight_bound(task, 1, (("a", -1),), ("a",)))
        self.assertIsNone(weight_bound(task, 0, (("b", 1),), ("b",)))
        self.assertEqual(weight_bound(task, -1, (("b", 1),), ("b",)), 0)

    def test_starts(self):
        for start in NO_STARTS:
            self.assertIsNone(weight_bound(FREE, start, (("a", -1000), ("b", -1000)), ()))
        wide = (("a", -1000), ("b", -1000))
        for start in (-1000, -999, 0, 1, 999, 1000):
            self.assertEqual(weight_bound(FREE, start, wide, ()), max(start, 0))
        self.assertEqual(weight_bound(FREE, -1000, (("a", 500), ("b", 500)), ("a", "b")), 0)
        self.assertIsNone(weight_bound(FREE, -1000, (("a", 500), ("b", 501)), ("a", "b")))

    def test_the_greatest_worth(self):
        signs = tuple("abcdefghij")
        task = ((), signs[:2], signs)
        weights = tuple((sign, 1000 if sign < "f" else -1000) for sign in signs)
        self.assertEqual(weight_bound(task, 0, weights, ("a", "b", "c", "d", "e")), 5000)
        self.assertEqual(weight_bound(task, 0, weights, signs), 0)
        self.assertIsNone(weight_bound(task, 1, weights, signs))

    def test_values_of_any_kind(self):
        for value in OTHERS:
            for start in (0, 1, -1000, value):
                if value != () or isinstance(value, LikeAll):
                    self.assertIsNone(weight_bound(TASK, start, value, ("a",)))
                    self.assertIsNone(weight_bound(TASK, start, (value,), ("a",)))
                    self.assertIsNone(weight_bound(TASK, start, (("c", -1), value), ("a",)))

    def test_very_many_weights(self):
        begun = time.monotonic()
        many = (("a", 1),) * 100000
        self.assertIsNone(weight_bound(TASK, 0, many, ("a",)))
        with self.assertRaises(BadNumber):
            lost_most(TASK, many)
        self.assertLess(time.monotonic() - begun, 10)


class Random(unittest.TestCase):

    def drawn(self, task, chance):
        """A start and weights that are often sound."""
        weights = []
        for fact in slow_bounds.facts_of(task):
            if chance.random() < 0.5:
                weights.append((fact, chance.choice((-3, -2, -1, -1, 1, 1, 2))))
        total = sum(weight if fact in task[2] else max(weight, 0) for fact, weight in weights)
        return chance.choice((0, 0, -1, 1)) - total, tuple(weights)

    def test_beside_slow_reckonings(self):
        many = {"sound": 0, "not": 0, "above": 0, "below": 0}
        for seed in range(2500):
            task, chance = slow.random_task(seed), random.Random(seed)
            start, weights = self.drawn(task, chance)
            lost = lost_most(task, weights)
            self.assertEqual(lost, slow_papers.lost_most(task, weights))
            for state in slow_bounds.some_states(task, chance, 2):
                self.is_lost_at_most(task, weights, state, dict(lost))
                bound = weight_bound(task, start, weights, state)
                self.assertEqual(bound, slow_papers.weight_bound(task, start, weights, state))
                many["not" if bound is None else "sound"] += 1
                if bound is not None:
                    many["above"] += bound > 0
                    many["below"] += slow_papers.worth(start, weights, state) < 0
                    if price_left(task, state) is not None:
                        self.assertLessEqual(bound, price_left(task, state))
        for kind in many:
            self.assertGreater(many[kind], 100, kind)

    def is_lost_at_most(self, task, weights, state, lost):
        before = slow_papers.worth(0, weights, state)
        for name, _, behind in slow.steps(task, frozenset(state)):
            self.assertLessEqual(before - slow_papers.worth(0, weights, behind), lost[name])


class Example(unittest.TestCase):

    def test_the_example_of_the_interface(self):
        task = task_of(sample('keys'))
        told = [weight_bound(task, 3, (('in yard', -3),), task[1]), weight_bound(task, 1, (), task[1]),
                lost_most(task, (('in yard', -3),))]
        self.assertEqual(told, [3, None, (('back', 0), ('leave', 3), ('take', 0), ('unlock', 0), ('walk', 0))])


if __name__ == "__main__":
    unittest.main()
