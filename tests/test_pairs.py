"""Point 9: pairs of facts, pairs that are kept, groups."""

import random
import time
import unittest
from itertools import combinations, combinations_with_replacement

import slow
import slow_bounds
from wishroads.errors import BadFacts, BadTask
from wishroads.pairs import apart, groups, shows_apart
from wishroads.searching import states_met
from wishroads.worlds import sample, task_of
from wrong import OTHERS, LikeAll

SIGNS = tuple("abcdefghij")

# Values that are no pairs of the facts a, b, c and d.
NO_PAIRS = [value for value in OTHERS if value != ()] + [(value,) for value in OTHERS] + [
    LikeAll(),
    ["a", "b"], ("a", "b"), [("a", "b")], (["a", "b"],), (("a",),), (("a", "b", "c"),), (("a", "none"),),
    (("none", "none"),), (("b", "a"),), (("a", 1),), ((1, "a"),), ((1, 1),), (("a", None),), ((True, False),),
    (("a", ["b"]),), ((("a", "b"),),), ((("a", "b"), ("a", "c")),), (("a", "b"), "ac"), ("ab",), ("ab", "cd"),
    (("b", "c"), ("a", "b")), (("a", "b"), ("a", "b")), (("a", "c"), ("a", "b")), (("a", "a"), ("a", "a")),
    (("a", "b"), ("a", "a")), (("a", "b"), ("a", "c"), ("a", "b")), (("a", "b"), None), (("a", "b"), []),
    {("a", "b")}, {("a", "b"): 1}, (("", "a"),), ((b"a", b"b"),), ((LikeAll(), LikeAll()),), (("a", LikeAll()),),
    ((LikeAll(), "a"),), (("a", "b"), LikeAll()), (("a", "b" * 41),)]

FREE = ((), (), ("a", "b", "c", "d"))


def task_with(begin, *deeds):
    """A task of the facts a, b, c and d, with deeds of price 1 that are told by their four rows of facts."""
    rows = tuple((f"d{at}", *[tuple(row) for row in deed], 1) for at, deed in enumerate(deeds))
    return (rows, tuple(begin), ("a", "b", "c", "d"))


class Told(unittest.TestCase):
    """What is pairs, for any value."""

    def test_no_pairs(self):
        for value in NO_PAIRS:
            self.assertIs(shows_apart(FREE, value), False)
            with self.assertRaises(BadFacts):
                groups(FREE, value)

    def test_pairs(self):
        for value in ((), (("a", "a"),), (("a", "b"),), (("a", "a"), ("a", "b"), ("b", "b")), (("a", "d"), ("b", "c")),
                      tuple(combinations_with_replacement("abcd", 2))):
            self.assertIs(shows_apart(FREE, value), True)
            self.assertIsInstance(groups(FREE, value), tuple)

    def test_wrong_tasks(self):
        for value in OTHERS:
            for call in (lambda: apart(value), lambda: shows_apart(value, None), lambda: groups(value, None)):
                with self.assertRaises(BadTask):
                    call()

    def test_arguments_are_not_changed(self):
        value = [["b", "a"], ["a", "a"]]
        self.assertIs(shows_apart(FREE, value), False)
        self.assertIs(shows_apart(FREE, tuple(value)), False)
        self.assertEqual(value, [["b", "a"], ["a", "a"]])


class Kept(unittest.TestCase):

    def is_kept(self, kept, task, *pairs):
        value = tuple(tuple(pair) for pair in pairs)
        self.assertIs(shows_apart(task, value), kept)
        self.assertIs(slow_bounds.are_kept(task, value), kept)
        if kept:
            self.assertTrue(set(value) <= set(apart(task)))

    def test_none_stands_at_the_beginning(self):
        task = task_with("ab")
        self.is_kept(True, task)
        self.is_kept(False, task, "ab")
        self.is_kept(False, task, "aa")
        self.is_kept(True, task, "ac", "bc", "cc", "cd")
        self.is_kept(False, task, "ac", "bb")
        self.assertEqual(apart(task), (("a", "c"), ("a", "d"), ("b", "c"), ("b", "d"), ("c", "c"), ("c", "d"),
                                       ("d", "d")))

    def test_no_pairs_and_no_facts(self):
        self.is_kept(True, task_with("abcd", ("", "", "abcd", "")))
        for task in (((), (), ()), ((("stay", (), (), (), (), 1),), (), ())):
            self.assertEqual(apart(task), ())
            self.assertIs(shows_apart(task, ()), True)
            self.assertIs(shows_apart(task, (("a", "a"),)), False)
            self.assertEqual(groups(task, ()), ())

    def test_one_fact_at_least_is_added(self):
        task = task_with("", ("", "", "a", ""))
        self.is_kept(False, task, "ab")
        self.is_kept(False, task, "aa")
        self.is_kept(True, task, "bc")
        self.is_kept(True, task, "bb")

    def test_both_are_added(self):
        self.is_kept(False, task_with("", ("", "", "ab", "")), "ab")
        self.is_kept(False, task_with("", ("", "ab", "ab", "")), "ab")

    def test_none_is_struck(self):
        self.is_kept(True, task_with("", ("", "", "a", "b")), "ab")
        self.is_kept(False, task_with("", ("", "", "a", "b")), "ac")

    def test_none_that_is_not_added_is_barred(self):
        self.is_kept(True, task_with("", ("", "b", "a", "")), "ab")
        self.is_kept(False, task_with("", ("", "c", "a", "")), "ab")
        self.is_kept(False, task_with("", ("", "a", "a", "")), "ab")
        self.is_kept(False, task_with("", ("", "a", "a", "")), "aa")

    def test_needs_that_are_a_pair(self):
        self.is_kept(False, task_with("", ("cd", "", "ab", "")), "ab")
        self.is_kept(True, task_with("", ("cd", "", "ab", "")), "ab", "cd")
        self.is_kept(True, task_with("", ("cd", "", "ab", "")), "ab", "cc")
        self.is_kept(True, task_with("", ("cd", "", "ab", "")), "ab", "dd")
        self.is_kept(True, task_with("", ("ab", "", "ab", "")), "ab")
        self.is_kept(True, task_with("", ("b", "", "b", "")), "bb")

    def test_needs_and_facts_that_are_not_added(self):
        self.is_kept(False, task_with("", ("c", "", "a", "")), "ab")
        self.is_kept(True, task_with("", ("c", "", "a", "")), "ab", "bc")
        self.is_kept(True, task_with("", ("c", "", "a", "")), "ab", "bb")
        self.is_kept(True, task_with("", ("c", "", "a", "")), "ab", "cc")
        self.is_kept(True, task_with("", ("", "", "a", "")), "ab", "bb")
        self.is_kept(True, task_with("", ("a", "", "a", "")), "ab")
        self.is_kept(False, task_with("", ("b", "", "a", "")), "ab")
        self.is_kept(True, task_with("", ("b", "", "a", "")), "ab", "bb")
        # What it adds besides isn't looked at, although it may be a pair with what isn't added.
        self.is_kept(False, task_with("", ("c", "", "ad", "")), "ab", "bd")
        self.is_kept(False, task_with("", ("c", "", "ad", "")), "ab", "cd")

    def test_a_fact_that_never_comes(self):
        self.is_kept(True, task_with("a", ("b", "", "c", "")), "bb", "cc")
        self.is_kept(False, task_with("a", ("b", "", "c", "")), "cc")
        self.is_kept(True, task_with("a", ("b", "", "b", "")), "bb")
        self.assertIn(("c", "c"), apart(task_with("a", ("b", "", "c", ""))))

    def test_pairs_keep_each_other(self):
        task = task_with("a", ("a", "", "b", "a"), ("b", "", "c", "b"), ("c", "", "a", "c"))
        self.is_kept(True, task, "ab", "ac", "bc", "dd")
        self.is_kept(False, task, "ab")
        self.is_kept(False, task, "ab", "bc")
        self.assertEqual(apart(task), (("a", "b"), ("a", "c"), ("a", "d"), ("b", "c"), ("b", "d"), ("c", "d"),
                                       ("d", "d")))
        self.assertEqual(groups(task, apart(task)), (("a", "b", "c"),))


class Groups(unittest.TestCase):

    def test_groups(self):
        for told, found in (("ab", ["ab"]), ("ab cd", ["ab", "cd"]), ("ab ac", ["ab", "ac"]), ("ab ac bc", ["abc"]),
                            ("ab ac ad bc", ["abc", "ad"]), ("ab ac ad bc bd cd", ["abcd"]),
                            ("ab ac ad bc bd", ["abc", "abd"]), ("ac ad bc bd", ["ac", "ad", "bc", "bd"])):
            pairs = tuple(tuple(pair) for pair in told.split())
            self.assertEqual(groups(FREE, pairs), tuple(tuple(row) for row in found))

    def test_pairs_of_a_fact_with_itself(self):
        for told, found in (("", []), ("aa", []), ("aa bb", []), ("aa ab", []), ("ab bb", []), ("aa ab ac bc", ["bc"]),
                            ("ab ac ad bc bd cd dd", ["abc"]), ("aa ab bb cd", ["cd"]), ("aa ab bb bc cc", [])):
            pairs = tuple(tuple(pair) for pair in told.split())
            self.assertEqual(groups(FREE, pairs), tuple(tuple(row) for row in found))

    def test_pairs_need_not_be_kept(self):
        task = task_with("abcd", ("", "", "abcd", ""))
        self.assertEqual(groups(task, (("a", "b"), ("a", "c"), ("b", "c"))), (("a", "b", "c"),))

    def test_ten_facts(self):
        task = ((), (), SIGNS)
        every = tuple(combinations(SIGNS, 2))
        self.assertEqual(groups(task, every), (SIGNS,))
        self.assertEqual(groups(task, tuple(combinations_with_replacement(SIGNS, 2))), ())
        apart_by_one = tuple(pair for pair in every if pair not in (tuple(SIGNS[at:at + 2]) for at in range(0, 10, 2)))
        found = groups(task, apart_by_one)
        self.assertEqual(len(found), 32)
        self.assertEqual(found, slow_bounds.groups(task, apart_by_one))
        three = tuple(pair for pair in every if SIGNS.index(pair[0]) // 3 != SIGNS.index(pair[1]) // 3)
        self.assertEqual(len(groups(task, three)), 27)
        begun = time.monotonic()
        for _ in range(20):
            groups(task, every)
            groups(task, apart_by_one)
        self.assertLess(time.monotonic() - begun, 10)

    def test_ten_facts_drawn_at_random(self):
        task, chance = ((), (), SIGNS), random.Random(9)
        for seed in range(60):
            pairs = []
            for pair in combinations_with_replacement(SIGNS, 2):
                if chance.random() < (0.05 if pair[0] == pair[1] else seed / 60):
                    pairs.append(pair)
            self.assertEqual(groups(task, tuple(pairs)), slow_bounds.groups(task, pairs))


class Random(unittest.TestCase):

    def test_beside_slow_reckonings(self):
        many = {"kept": 0, "not": 0, "some": 0, "none": 0}
        for seed in range(1500):
            task, chance = slow.random_task(seed), random.Random(seed)
            found = apart(task)
            many["some" if found else "none"] += 1
            self.assertTrue(slow_bounds.are_kept(task, found))
            self.assertTrue(shows_apart(task, found))
            if len(slow_bounds.facts_of(task)) <= 3:
                self.assertEqual(found, slow_bounds.apart(task))
            pairs = slow_bounds.all_pairs(task)
            for lot in (pairs, found):
                drawn = tuple(sorted(chance.sample(lot, chance.randint(0, len(lot)))))
                self.assertIs(shows_apart(task, drawn), slow_bounds.are_kept(task, drawn))
                many["kept" if shows_apart(task, drawn) else "not"] += 1
                self.assertEqual(groups(task, drawn), slow_bounds.groups(task, drawn))
            for state in states_met(task):
                self.assertFalse([pair for pair in found if set(pair) <= set(state)])
        for kind in many:
            self.assertGreater(many[kind], 100, kind)

    def test_the_greatest_lot_of_four_facts(self):
        compared = 0
        for seed in range(400):
            task = slow.random_task(seed)
            if len(slow_bounds.facts_of(task)) == 4 and len(task[0]) > 2:
                self.assertEqual(apart(task), slow_bounds.apart(task))
                compared += 1
        self.assertGreater(compared, 20)


class Example(unittest.TestCase):

    def test_the_example_of_the_interface(self):
        task = task_of(sample('lift'))
        told = [apart(task), groups(task, apart(task)), shows_apart(task, (('lift high', 'lift low'),))]
        self.assertEqual(told, [(('at ann high', 'at ann low'), ('at ann high', 'inside ann'),
                                 ('at ann low', 'inside ann'), ('lift high', 'lift low')),
                                (('at ann high', 'at ann low', 'inside ann'), ('lift high', 'lift low')), True])


if __name__ == "__main__":
    unittest.main()
