"""Points 5 and 6: the loosened price, the least price by some facts alone, the sum over patterns."""

import random
import time
import unittest
from itertools import combinations

import slow
import slow_bounds
from wishroads.errors import BadFacts, BadState, BadTask
from wishroads.patterns import loosened_price, pattern_price, shared_bound
from wishroads.searching import least_price, price_left
from wishroads.worlds import sample, task_of
from wrong import NO_FACTS, OTHERS

# Two things, p and q, are brought one behind the other; "r" rests on both; x bars q for ever.
DEEDS = (
    ("p", ("h",), (), ("p",), ("h",), 3),
    ("q", ("h",), ("x",), ("q",), ("h",), 4),
    ("r", ("p", "q"), (), ("r",), (), 2),
    ("x", (), (), ("x",), (), 1),
)
TASK = (DEEDS, ("h",), ("p", "q"))
SIGNS = tuple("abcdefghij")


def switches():
    """Ten facts, each added by a deed of its own, four of them struck by another: 1024 states."""
    sets = [("set " + sign, (), (), (sign,), (), 1 + at % 9) for at, sign in enumerate(SIGNS)]
    clears = [("clear " + sign, (), (), (), (sign,), 1) for sign in SIGNS[:4]]
    return (tuple(sorted(sets + clears)), (), SIGNS)


class Loosened(unittest.TestCase):

    def test_bars_and_strikes_are_left_aside(self):
        self.assertIsNone(least_price(TASK))
        self.assertEqual(loosened_price(TASK, ("h",)), 7)
        self.assertEqual(loosened_price(TASK, ("h", "x")), 7)
        self.assertEqual(loosened_price(TASK, ("h", "p")), 4)
        self.assertEqual(loosened_price(TASK, ("p", "q")), 0)

    def test_a_wish_that_can_not_be_had(self):
        self.assertIsNone(loosened_price(TASK, ()))
        self.assertIsNone(loosened_price(TASK, ("p",)))
        self.assertIsNone(loosened_price(((), (), ("a",)), ()))

    def test_an_empty_wish_and_no_deeds(self):
        self.assertEqual(loosened_price((DEEDS, (), ()), ()), 0)
        self.assertEqual(loosened_price(((), (), ()), ()), 0)
        self.assertEqual(loosened_price(((), (), ("a",)), ("a",)), 0)

    def test_a_deed_counts_once_for_all_that_it_adds(self):
        deeds = (("a", (), (), ("a",), (), 2), ("ab", (), (), ("a", "b"), (), 5), ("b", (), (), ("b",), (), 4),
                 ("c", ("a",), (), ("c",), (), 1), ("d", ("a",), (), ("d",), (), 1))
        self.assertEqual(loosened_price((deeds, (), ("c", "d")), ()), 4)
        self.assertEqual(loosened_price((deeds, (), ("a", "b")), ()), 5)
        self.assertEqual(loosened_price((deeds, (), ("a", "b", "c", "d")), ()), 7)

    def test_facts_that_are_only_barred_or_struck(self):
        task = ((("go", (), ("x",), ("y",), ("z",), 3),), (), ("y",))
        self.assertEqual(loosened_price(task, ("x", "z")), 3)
        self.assertEqual(loosened_price(task, ("x", "y", "z")), 0)

    def test_wrong_tasks_and_states(self):
        for value in OTHERS:
            with self.assertRaises(BadTask):
                loosened_price(value, None)
        for state in NO_FACTS:
            with self.assertRaises(BadState):
                loosened_price(((("go", ("a",), (), ("b",), (), 1),), (), ()), state)


class Pattern(unittest.TestCase):

    def test_some_facts_alone(self):
        self.assertEqual(pattern_price(TASK, ("p",), ("h",)), 3)
        self.assertEqual(pattern_price(TASK, ("p", "q"), ("h",)), 7)
        self.assertEqual(pattern_price(TASK, ("h", "p"), ("h",)), 3)
        self.assertIsNone(pattern_price(TASK, ("h", "p", "q"), ("h",)))
        self.assertEqual(pattern_price(TASK, ("h", "q"), ("h", "x")), 4)
        self.assertIsNone(pattern_price(TASK, ("q", "x"), ("h", "x")))
        self.assertIsNone(pattern_price(TASK, ("h", "q"), ("x",)))
        self.assertEqual(pattern_price(TASK, ("x",), ("h",)), 0)

    def test_each_row_of_a_deed_is_struck_by_itself(self):
        wish = ("w",)
        need = ((("go", ("n",), (), ("w",), (), 2),), (), wish)
        self.assertEqual([pattern_price(need, wish, ()), pattern_price(need, ("n", "w"), ())], [2, None])
        bar = ((("go", (), ("n",), ("w",), (), 2),), ("n",), wish)
        self.assertEqual([pattern_price(bar, wish, ("n",)), pattern_price(bar, ("n", "w"), ("n",))], [2, None])
        add = ((("a", (), (), ("n",), (), 3), ("go", ("n",), (), ("w",), (), 2)), (), wish)
        self.assertEqual([pattern_price(add, wish, ()), pattern_price(add, ("n", "w"), ())], [2, 5])
        strike = ((("clear", (), (), (), ("n",), 3), ("go", (), ("n",), ("w",), (), 2)), ("n",), wish)
        self.assertEqual([pattern_price(strike, wish, ("n",)), pattern_price(strike, ("n", "w"), ("n",))], [2, 5])

    def test_no_facts_and_all_facts(self):
        self.assertEqual(pattern_price(TASK, (), ()), 0)
        self.assertEqual(pattern_price(((), (), ("a",)), (), ()), 0)
        self.assertEqual(pattern_price(((), (), ()), (), ()), 0)
        self.assertIsNone(pattern_price(((), (), ("a",)), ("a",), ()))
        for name in ("lift", "keys"):
            task = task_of(sample(name))
            signs = tuple(slow_bounds.facts_of(task))
            self.assertEqual(pattern_price(task, signs, task[1]), least_price(task))

    def test_an_empty_wish(self):
        for some in ((), ("h",), ("h", "p", "q", "r", "x")):
            self.assertEqual(pattern_price((DEEDS, (), ()), some, ()), 0)

    def test_wrong_facts(self):
        task = ((("go", ("a",), (), ("b",), (), 1),), (), ())
        for some in NO_FACTS:
            with self.assertRaises(BadFacts):
                pattern_price(task, some, ())
            with self.assertRaises(BadFacts):
                pattern_price(task, some, None)
            with self.assertRaises(BadState):
                pattern_price(task, ("a", "b"), some)
        for value in OTHERS:
            with self.assertRaises(BadTask):
                pattern_price(value, None, None)


class Shared(unittest.TestCase):

    def test_a_price_counts_for_the_first_pattern_alone(self):
        deeds = (("a", (), (), ("a",), (), 2), ("ab", (), (), ("a", "b"), (), 3), ("b", (), (), ("b",), (), 4))
        task = (deeds, (), ("a", "b"))
        self.assertEqual(shared_bound(task, (("a",),), ()), 2)
        self.assertEqual(shared_bound(task, (("b",),), ()), 3)
        self.assertEqual(shared_bound(task, (("a",), ("b",)), ()), 2)
        self.assertEqual(shared_bound(task, (("b",), ("a",)), ()), 3)
        self.assertEqual(shared_bound(task, (("a", "b"), ("a",), ("b",)), ()), 3)

    def test_strikes_count_as_adds_do(self):
        deeds = (("a", (), (), ("a",), ("b",), 2), ("b", (), (), ("b",), (), 3), ("c", (), ("b",), ("c",), (), 5))
        task = (deeds, ("b",), ("a", "c"))
        self.assertEqual(shared_bound(task, (("b", "c"), ("a",)), ("b",)), 7)
        self.assertEqual(shared_bound(task, (("a",), ("b", "c")), ("b",)), 7)
        self.assertEqual(shared_bound(task, (("b",), ("a",)), ("b",)), 0)
        self.assertEqual(shared_bound(task, (("a",), ("c",)), ("b",)), 7)

    def test_needs_and_bars_do_not_count(self):
        deeds = (("go", ("n",), ("m",), ("w",), (), 6),)
        task = (deeds, ("n",), ("w",))
        self.assertEqual(shared_bound(task, (("n",), ("w",)), ("n",)), 6)
        self.assertEqual(shared_bound(task, (("m",), ("w",)), ("n",)), 6)
        self.assertEqual(shared_bound(task, (("m", "n"), ("n", "w"), ("m", "w")), ("n",)), 6)

    def test_what_changes_nothing_counts_too(self):
        task = ((("go", (), (), ("a", "w"), (), 6),), ("a",), ("w",))
        self.assertEqual(shared_bound(task, (("a",), ("w",)), ("a",)), 0)

    def test_no_patterns_and_empty_ones(self):
        for task in (TASK, (DEEDS, (), ()), ((), (), ()), ((), (), ("a",))):
            for patterns in ((), ((),), ((), ())):
                self.assertEqual(shared_bound(task, patterns, ()), 0)
        self.assertEqual(shared_bound(TASK, ((), ("p",), (), ("q",)), ("h",)), 7)

    def test_the_same_pattern_twice(self):
        self.assertEqual(shared_bound(TASK, (("p",), ("p",)), ("h",)), 3)
        self.assertEqual(shared_bound(TASK, (("p", "q"), ("q",), ("p", "q")), ("h",)), 7)
        self.assertEqual(shared_bound(TASK, (("q",), ("p",), ("q",)) * 3, ("h",)), 7)

    def test_no_way_by_one_of_them(self):
        self.assertIsNone(shared_bound(TASK, (("p",), ("h", "p", "q")), ("h",)))
        self.assertIsNone(shared_bound(TASK, (("h", "p", "q"), ("p",)), ("h",)))
        self.assertIsNone(shared_bound(TASK, (("p",), ("q", "x"), ("q", "x")), ("h", "x")))
        self.assertIsNone(shared_bound(((), (), ("a", "b")), (("a",), ("b",)), ("a",)))

    def test_a_fact_of_the_task_that_stands_nowhere_but_in_bars(self):
        task = ((("go", (), ("x",), ("y",), (), 3),), (), ("y",))
        self.assertEqual(shared_bound(task, (("x",), ("y",)), ("x",)), 3)
        self.assertIsNone(shared_bound(task, (("x", "y"),), ("x",)))

    def test_wrong_patterns(self):
        task = ((("go", ("a",), (), ("b",), (), 1),), (), ())
        for some in NO_FACTS:
            for value in ((some,), (("a",), some), (some, ("a",)), ((), some, some)):
                with self.assertRaises(BadFacts):
                    shared_bound(task, value, None)
            with self.assertRaises(BadState):
                shared_bound(task, (("a",),), some)
        for value in OTHERS + (["a"], [("a",)], ("a",), {("a",)}, {("a",): 1}, "ab", ("a", "b"), (("a",), "b"), (["a"],)):
            if not isinstance(value, tuple) or value not in ((), ((),), ((), (), (), ())):
                with self.assertRaises(BadFacts):
                    shared_bound(task, value, None)
        for value in OTHERS:
            with self.assertRaises(BadTask):
                shared_bound(value, None, None)


class Random(unittest.TestCase):

    def test_beside_slow_reckonings(self):
        lacking = shared = 0
        for seed in range(700):
            task, chance = slow.random_task(seed), random.Random(seed)
            signs = slow_bounds.facts_of(task)
            for state in slow_bounds.some_states(task, chance, 2):
                patterns = []
                for _ in range(chance.randint(0, 4)):
                    patterns.append(tuple(sorted(chance.sample(signs, chance.randint(0, len(signs))))))
                told = shared_bound(task, tuple(patterns), state)
                self.assertEqual(told, slow_bounds.shared_bound(task, patterns, state))
                alone = [pattern_price(task, some, state) for some in patterns]
                self.assertEqual(alone, [slow_bounds.pattern_price(task, some, state) for some in patterns])
                self.assertEqual(pattern_price(task, tuple(signs), state), price_left(task, state))
                self.assertEqual(loosened_price(task, state), slow_bounds.loosened_price(task, state))
                lacking += told is None
                shared += told is not None and told < sum(alone)
                if told is None or price_left(task, state) is None:
                    self.assertIsNone(price_left(task, state))
                else:
                    self.assertLessEqual(told, price_left(task, state))
        self.assertGreater(lacking, 100)
        self.assertGreater(shared, 100)


class Greatest(unittest.TestCase):

    def test_the_greatest_task(self):
        task = switches()
        begun = time.monotonic()
        self.assertEqual(loosened_price(task, ()), 46)
        self.assertEqual(pattern_price(task, SIGNS, ()), 46)
        every = tuple(some for many in range(11) for some in combinations(SIGNS, many))
        self.assertEqual(shared_bound(task, every, ()), 46)
        self.assertEqual(shared_bound(task, every[::-1], ()), 46)
        self.assertEqual(shared_bound(task, (SIGNS,) * 50000, ()), 46)
        self.assertLess(time.monotonic() - begun, 20)


class Example(unittest.TestCase):

    def test_the_example_of_the_interface(self):
        task = task_of(sample('lift'))
        ann = ('at ann high', 'at ann low', 'inside ann')
        told = [loosened_price(task, task[1]), pattern_price(task, ann, task[1]),
                shared_bound(task, (ann, ('lift high', 'lift low')), task[1])]
        self.assertEqual(told, [4, 2, 2])


if __name__ == "__main__":
    unittest.main()
