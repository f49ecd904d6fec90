"""Point 5: what can be had with bars and strikes left aside, first prices (the loosened price: test_patterns)."""

import random
import unittest

import slow
import slow_bounds
from wishroads.errors import BadState, BadTask
from wishroads.loosened import first_price, first_prices, had
from wishroads.searching import price_left
from wishroads.worlds import sample, task_of
from wrong import NO_FACTS, OTHERS

# From a: b for 2, or by c for 3; d needs b and c; e can't be had, as it needs itself; f needs e.
DEEDS = (
    ("b at once", ("a",), (), ("b",), ("a",), 2),
    ("b by c", ("c",), (), ("b",), (), 1),
    ("c", (), ("a",), ("c",), (), 4),
    ("d", ("b", "c"), (), ("a", "d"), ("b", "c"), 3),
    ("d dear", ("a",), (), ("d",), (), 8),
    ("e", ("e",), (), ("e",), (), 1),
    ("f", ("a", "e"), (), ("f",), (), 1),
)
TASK = (DEEDS, ("a",), ("b", "d"))


def with_wish(*wish):
    return (DEEDS, ("a",), wish)


class Had(unittest.TestCase):

    def test_bars_and_strikes_are_left_aside(self):
        self.assertEqual(had(TASK, ("a",)), ("a", "b", "c", "d"))
        self.assertEqual(had(TASK, ()), ("a", "b", "c", "d"))
        barred = ((("go", (), ("x",), ("y",), (), 1),), ("x",), ("y",))
        self.assertEqual(had(barred, ("x",)), ("x", "y"))
        struck = ((("go", ("x",), (), ("y",), ("x",), 1),), ("x",), ("x", "y"))
        self.assertEqual(had(struck, ("x",)), ("x", "y"))
        for task in (barred, struck):
            self.assertIsNone(price_left(task, ("x",)))
            self.assertEqual(first_price(task, ("x",)), 1)

    def test_what_stands_can_be_had(self):
        self.assertEqual(had(TASK, ("e",)), ("a", "b", "c", "d", "e", "f"))
        self.assertEqual(had(TASK, ("f",)), ("a", "b", "c", "d", "f"))

    def test_no_deeds_and_no_facts(self):
        self.assertEqual(had(((), ("a",), ("b",)), ("a",)), ("a",))
        self.assertEqual(had(((), ("a",), ("b",)), ()), ())
        self.assertEqual(had(((), (), ()), ()), ())
        self.assertEqual(had(((("stay", (), (), (), (), 1),), (), ()), ()), ())

    def test_needs_are_not_left_aside(self):
        task = ((("go", ("x", "y"), (), ("z",), (), 1),), (), ("z",))
        self.assertEqual(had(task, ("x",)), ("x",))
        self.assertEqual(had(task, ("x", "y")), ("x", "y", "z"))


class First(unittest.TestCase):

    def test_first_prices(self):
        self.assertEqual(first_prices(TASK, ("a",)), (("a", 0), ("b", 2), ("c", 4), ("d", 7)))
        self.assertEqual(first_prices(TASK, ()), (("a", 8), ("b", 5), ("c", 4), ("d", 8)))
        self.assertEqual(first_prices(TASK, ("c",)), (("a", 4), ("b", 1), ("c", 0), ("d", 4)))
        self.assertEqual(first_prices(TASK, ("a", "d", "e")),
                         (("a", 0), ("b", 2), ("c", 4), ("d", 0), ("e", 0), ("f", 1)))

    def test_first_price_is_the_greatest_of_the_wish(self):
        self.assertEqual(first_price(TASK, ("a",)), 7)
        self.assertEqual(first_price(with_wish("b"), ("a",)), 2)
        self.assertEqual(first_price(with_wish("a"), ("a",)), 0)
        self.assertEqual(first_price(with_wish("a"), ()), 8)

    def test_an_empty_wish(self):
        for state in ((), ("a",), ("e",)):
            self.assertEqual(first_price(with_wish(), state), 0)
        self.assertEqual(first_price(((), (), ()), ()), 0)

    def test_a_wish_that_can_not_be_had(self):
        for wish in (("e",), ("f",), ("a", "e"), ("b", "f")):
            self.assertIsNone(first_price(with_wish(*wish), ("a",)))
        self.assertEqual(first_price(with_wish("b", "f"), ("a", "e")), 2)
        self.assertIsNone(first_price(((), (), ("a",)), ()))
        self.assertEqual(first_price(((), (), ("a",)), ("a",)), 0)

    def test_the_greatest_need_counts_and_not_the_sum(self):
        deeds = (("a", (), (), ("a",), (), 5), ("b", (), (), ("b",), (), 4), ("c", ("a", "b"), (), ("c",), (), 3))
        self.assertEqual(first_prices((deeds, (), ("c",)), ()), (("a", 5), ("b", 4), ("c", 8)))

    def test_a_cheaper_way_that_is_found_late(self):
        deeds = (("a dear", (), (), ("e",), (), 9), ("b", ("e",), (), ("f",), (), 1), ("c", ("d",), (), ("e",), (), 1),
                 ("d", ("c",), (), ("d",), (), 1), ("e", (), (), ("c",), (), 1))
        self.assertEqual(first_prices((deeds, (), ("f",)), ()), (("c", 1), ("d", 2), ("e", 3), ("f", 4)))

    def test_deeds_that_add_what_they_need_or_bar(self):
        deeds = (("both", ("p",), (), ("p", "q"), (), 2), ("new", (), ("p",), ("p",), (), 6))
        task = (deeds, (), ("p",))
        self.assertEqual(first_prices(task, ()), (("p", 6), ("q", 8)))
        self.assertEqual(first_prices(task, ("p",)), (("p", 0), ("q", 2)))
        self.assertEqual(first_prices(task, ("q",)), (("p", 6), ("q", 0)))

    def test_the_greatest_chain(self):
        signs = tuple("abcdefghij")
        deeds = tuple(("to " + behind, (ahead,), (), (behind,), (ahead,), 9) for ahead, behind in zip(signs, signs[1:]))
        for rows in (deeds, tuple((f"n{9 - at}", *deed[1:]) for at, deed in enumerate(deeds))):
            task = (tuple(sorted(rows)), ("a",), ("j",))
            self.assertEqual(first_price(task, ("a",)), 81)
            self.assertEqual(first_prices(task, ("a",)), tuple((sign, 9 * at) for at, sign in enumerate(signs)))
            self.assertEqual(had(task, ("e",)), signs[4:])


class Wrong(unittest.TestCase):

    def test_wrong_tasks(self):
        for call in (had, first_prices, first_price):
            for value in OTHERS:
                with self.assertRaises(BadTask) as caught:
                    call(value, None)
                self.assertIn(caught.exception.word, ("form", "deeds"))
            for value, word in ((((), [], ()), "begin"), (((), (), ("b", "a")), "wish"), ((DEEDS[::-1], (), ()), "names"),
                                (((), tuple("abcdefghijk"), ()), "facts"), ([DEEDS, (), ()], "form")):
                with self.assertRaises(BadTask) as caught:
                    call(value, None)
                self.assertEqual(caught.exception.word, word)

    def test_wrong_states(self):
        for call in (had, first_prices, first_price):
            for state in NO_FACTS:
                with self.assertRaises(BadState):
                    call(TASK, state)


class Random(unittest.TestCase):

    def test_beside_slow_reckonings(self):
        lacking = 0
        for seed in range(600):
            task, chance = slow.random_task(seed), random.Random(seed)
            for state in slow_bounds.some_states(task, chance):
                told = first_prices(task, state)
                self.assertEqual(told, slow_bounds.first_prices(task, state))
                self.assertEqual(had(task, state), slow_bounds.had(task, state))
                self.assertEqual(had(task, state), tuple(fact for fact, _ in told))
                least = first_price(task, state)
                self.assertEqual(least, slow_bounds.first_price(task, state))
                lacking += least is None
        self.assertTrue(200 < lacking < 2800)


class Example(unittest.TestCase):

    def test_the_example_of_the_interface(self):
        task = task_of(sample('lift'))
        told = [first_prices(task, task[1]), first_price(task, task[1]), had(task, ('lift low',))]
        prices = (('at ann high', 4), ('at ann low', 0), ('inside ann', 3), ('lift high', 0), ('lift low', 2))
        self.assertEqual(told, [prices, 4, ('lift high', 'lift low')])


if __name__ == "__main__":
    unittest.main()
