"""Point 4: states met, least prices, cheapest plans, deeds that all have, dead ends."""

import time
import unittest

import slow
from wishroads.errors import BadState, BadTask, TooMany
from wishroads.searching import (always_done, cheapest_plans, dead_ends, first_plan, greatest_price, least_price,
                                 must_deeds, plan_count, price_left, states_met)
from wishroads.tasks import is_plan, price
from wishroads.worlds import sample, task_of

OF_A_TASK = (always_done, cheapest_plans, dead_ends, first_plan, greatest_price, least_price, must_deeds, plan_count,
             states_met)

# Two ways to c of price 3, by b or at once; from t, the trap, there is no way.
FORK = (
    (
        ("dear", ("a",), (), ("c",), ("a",), 9),
        ("far", ("a",), (), ("b",), ("a",), 1),
        ("late", ("b",), (), ("c",), ("b",), 2),
        ("near", ("a",), (), ("c",), ("a",), 3),
        ("trap", ("a",), (), ("t",), ("a",), 1),
    ),
    ("a",),
    ("c",),
)


def counter(deeds):
    """Bits that are counted up from 0 to all: the longest plan that there is."""
    signs = [f"b{at}" for at in range(deeds)]
    rows = [(f"c{at}", tuple(signs[:at]), (signs[at],), (signs[at],), tuple(signs[:at]), 1) for at in range(deeds)]
    return (tuple(rows), (), tuple(signs))


def thrice_ten(more):
    """Ten alike deeds thrice: 1000 plans of price 5; more deeds of this price that lead to the wish at once."""
    alike = [(f"a{at}", ("ready",), (), ("acted",), ("ready",), 1) for at in range(10)]
    stages = [("n1", ("acted", "s1"), (), ("ready", "s2"), ("acted", "s1"), 1),
              ("n2", ("acted", "s2"), (), ("ready", "s3"), ("acted", "s2"), 1)]
    direct = [(f"z{at}", ("ready", "s1"), (), ("acted", "s3"), ("ready", "s1"), 5) for at in range(more)]
    return (tuple(alike + stages + direct), ("ready", "s1"), ("acted", "s3"))


class Fork(unittest.TestCase):

    def test_states_met(self):
        self.assertEqual(states_met(FORK), (("a",), ("b",), ("c",), ("t",)))

    def test_prices(self):
        self.assertEqual(least_price(FORK), 3)
        self.assertEqual(price_left(FORK, ("a",)), 3)
        self.assertEqual(price_left(FORK, ("b",)), 2)
        self.assertEqual(price_left(FORK, ("c",)), 0)
        self.assertIsNone(price_left(FORK, ("t",)))
        self.assertIsNone(price_left(FORK, ()))
        self.assertEqual(price_left(FORK, ("a", "b", "t")), 2)

    def test_plans(self):
        self.assertEqual(first_plan(FORK), ("far", "late"))
        self.assertEqual(cheapest_plans(FORK), (("far", "late"), ("near",)))
        self.assertEqual(plan_count(FORK), 2)

    def test_deeds_that_all_have(self):
        self.assertEqual(always_done(FORK), ())
        self.assertEqual(must_deeds(FORK), ())
        dearer = tuple(deed[:5] + (4,) if deed[0] == "near" else deed for deed in FORK[0])
        self.assertEqual(always_done((dearer, *FORK[1:])), ("far", "late"))
        self.assertEqual(must_deeds((dearer, *FORK[1:])), ())
        alone = tuple(deed for deed in FORK[0] if deed[0] not in ("near", "dear"))
        self.assertEqual(must_deeds((alone, *FORK[1:])), ("far", "late"))

    def test_dead_ends(self):
        self.assertEqual(dead_ends(FORK), (("t",),))
        self.assertEqual(greatest_price(FORK), (3, ("c",)))

    def test_the_greatest_price_and_the_first_state_with_it(self):
        deeds = (("p", (), (), ("p",), (), 4), ("q", (), (), ("q",), (), 4))
        self.assertEqual(greatest_price((deeds, (), ())), (8, ("p", "q")))
        deeds = (("p", ("s",), (), ("y",), ("s",), 4), ("q", ("s",), (), ("x",), ("s",), 4))
        self.assertEqual(greatest_price((deeds, ("s",), ())), (4, ("x",)))

    def test_states_not_met_may_be_asked_for(self):
        task = ((("go", ("x",), (), ("w",), (), 7),), (), ("w",))
        self.assertIsNone(least_price(task))
        self.assertEqual(price_left(task, ("x",)), 7)
        self.assertEqual(price_left(task, ("w",)), 0)


class Edges(unittest.TestCase):

    def test_no_plan(self):
        for task in (((), (), ("a",)), ((("go", ("x",), (), ("a",), (), 1),), (), ("a",)),
                     ((("go", (), (), ("x",), (), 1),), (), ("a",))):
            self.assertIsNone(least_price(task))
            self.assertIsNone(first_plan(task))
            self.assertEqual(plan_count(task), 0)
            self.assertEqual(cheapest_plans(task), ())
            self.assertEqual(always_done(task), ())
            self.assertEqual(must_deeds(task), ())
            self.assertEqual(dead_ends(task), states_met(task))

    def test_the_wish_stands_at_the_beginning(self):
        for task in (((), (), ()), ((), ("a",), ("a",)), (FORK[0], ("a",), ()), (FORK[0], ("a", "c"), ("c",))):
            self.assertEqual(least_price(task), 0)
            self.assertEqual(first_plan(task), ())
            self.assertEqual(plan_count(task), 1)
            self.assertEqual(cheapest_plans(task), ((),))
            self.assertEqual(always_done(task), ())
            self.assertEqual(must_deeds(task), ())

    def test_no_deeds(self):
        task = ((), ("a",), ("a", "b"))
        self.assertEqual(states_met(task), (("a",),))
        self.assertEqual(dead_ends(task), (("a",),))
        self.assertEqual(greatest_price(task), (0, ("a",)))

    def test_deeds_that_change_nothing(self):
        task = ((("stay", (), (), (), (), 1),), (), ())
        self.assertEqual(plan_count(task), 1)
        self.assertEqual(states_met(task), ((),))

    def test_at_most_1000_plans(self):
        plans = cheapest_plans(thrice_ten(0))
        self.assertEqual(len(plans), 1000)
        self.assertEqual(plan_count(thrice_ten(0)), 1000)
        self.assertEqual(list(plans), sorted(plans))
        self.assertEqual(plans[1], ("a0", "n1", "a0", "n2", "a1"))
        self.assertEqual(plan_count(thrice_ten(1)), 1001)
        for more in (1, 2):
            with self.assertRaises(TooMany) as caught:
                cheapest_plans(thrice_ten(more))
            self.assertEqual(caught.exception.most, 1000)
        self.assertEqual(always_done(thrice_ten(0)), ("n1", "n2"))
        self.assertEqual(must_deeds(thrice_ten(0)), ("n1", "n2"))
        self.assertEqual(always_done(thrice_ten(1)), ())

    def test_wrong_tasks(self):
        for call in OF_A_TASK:
            for value, word in ((None, "form"), ([], "form"), ((None, None, None), "deeds"), (((), [], ()), "begin"),
                                (((), (), ("b", "a")), "wish"), (((), tuple("abcdefghijk"), ()), "facts"),
                                ((FORK[0][::-1], (), ()), "names"), (((FORK[0][0][:5] + (True,),), (), ()), "deeds")):
                with self.assertRaises(BadTask) as caught:
                    call(value)
                self.assertEqual(caught.exception.word, word)

    def test_wrong_states(self):
        for state in (None, "a", ["a"], ("x",), ("b", "a"), ("a", "a"), (1,), (["a"],), True, 0):
            with self.assertRaises(BadState):
                price_left(FORK, state)
        with self.assertRaises(BadTask):
            price_left(None, None)


class Greatest(unittest.TestCase):
    """The greatest tasks that the limits allow are answered quickly."""

    def in_time(self, task):
        begun = time.monotonic()
        for call in OF_A_TASK:
            if call is not cheapest_plans:
                call(task)
        self.assertLess(time.monotonic() - begun, 10)

    def test_1024_states(self):
        signs = tuple("abcdefghij")
        sets = [("set " + sign, (), (), (sign,), (), 1) for sign in signs]
        clears = [("clear " + sign, (), (), (), (sign,), 1) for sign in signs[:4]]
        task = (tuple(sorted(sets + clears)), (), signs)
        self.assertEqual(len(states_met(task)), 1024)
        self.assertEqual(plan_count(task), 3628800)
        self.assertEqual(always_done(task), tuple("set " + sign for sign in signs))
        self.assertEqual(must_deeds(task), tuple("set " + sign for sign in signs))
        self.assertEqual(greatest_price(task), (10, signs))
        with self.assertRaises(TooMany):
            cheapest_plans(task)
        self.in_time(task)

    def test_the_longest_plan(self):
        task = counter(10)
        self.assertEqual(least_price(task), 1023)
        plan = first_plan(task)
        self.assertEqual(plan[:4], ("c0", "c1", "c0", "c2"))
        self.assertTrue(is_plan(task, plan))
        self.assertEqual(cheapest_plans(task), (plan,))
        self.assertEqual(greatest_price(task)[0], 1023)
        self.in_time(task)

    def test_many_long_plans(self):
        deeds, begin, wish = counter(10)
        more = tuple(("x" + deeds[at][0],) + deeds[at][1:] for at in (6, 9))
        task = (deeds + tuple(sorted(more)), begin, wish)
        self.assertEqual(plan_count(task), 512)
        plans = cheapest_plans(task)
        self.assertEqual(list(plans), sorted(set(plans)))
        self.assertEqual({price(task, plan) for plan in plans[::100]}, {1023})
        self.in_time(task)


class Random(unittest.TestCase):

    def test_beside_slow_reckonings(self):
        kinds = {"none": 0, "empty": 0, "several": 0, "dead": 0, "must": 0, "always": 0}
        for seed in range(1500):
            task = slow.random_task(seed)
            self.compare(task, kinds)
        for kind, many in kinds.items():
            self.assertGreater(many, 20, kind)

    def compare(self, task, kinds):
        prices = slow.prices_from(task, frozenset(task[1]))
        met = sorted(tuple(sorted(state)) for state in prices)
        least = slow.price_left(task, task[1])
        self.assertEqual(states_met(task), tuple(met))
        self.assertEqual(least_price(task), least)
        for state in met:
            self.assertEqual(price_left(task, state), slow.price_left(task, state))
        dead = tuple(state for state in met if slow.price_left(task, state) is None)
        self.assertEqual(dead_ends(task), dead)
        most = max(prices.values())
        first = [state for state in met if prices[frozenset(state)] == most][0]
        self.assertEqual(greatest_price(task), (most, first))
        self.compare_plans(task, least)
        kinds["none"] += least is None
        kinds["empty"] += least == 0
        kinds["several"] += plan_count(task) > 1
        kinds["dead"] += bool(dead) and least is not None
        kinds["must"] += must_deeds(task) != ()
        kinds["always"] += always_done(task) != must_deeds(task)

    def compare_plans(self, task, least):
        if least is None:
            self.assertIsNone(first_plan(task))
            self.assertEqual((plan_count(task), cheapest_plans(task), always_done(task), must_deeds(task)),
                             (0, (), (), ()))
            return
        plans = slow.plans_of_price(task, least)
        self.assertEqual(first_plan(task), plans[0])
        self.assertEqual(plan_count(task), len(plans))
        self.assertEqual(cheapest_plans(task), tuple(plans))
        names = [deed[0] for deed in task[0]]
        self.assertEqual(always_done(task), tuple(name for name in names if all(name in plan for plan in plans)))
        must = [name for name in names if slow.price_left(slow.without(task, name), task[1]) is None]
        self.assertEqual(must_deeds(task), tuple(must))


class Example(unittest.TestCase):

    def test_the_example_of_the_interface(self):
        task = task_of(sample('lift'))
        told = [least_price(task), first_plan(task), plan_count(task), len(states_met(task)), greatest_price(task),
                dead_ends(task), price_left(task, ('inside ann', 'lift low')), must_deeds(task) == always_done(task)]
        plan = ('go high low', 'enter ann low', 'go low high', 'leave ann high')
        self.assertEqual(told, [6, plan, 1, 6, (8, ('at ann high', 'lift low')), (), 3, True])

    def test_keys(self):
        task = task_of(sample('keys'))
        self.assertEqual(first_plan(task), ('walk', 'take', 'back', 'unlock', 'leave'))
        self.assertEqual(least_price(task), 8)
        self.assertEqual(must_deeds(task), ('back', 'leave', 'take', 'unlock', 'walk'))
        shut = (tuple(deed for deed in task[0] if deed[0] != 'take'), *task[1:])
        self.assertEqual(dead_ends(shut), (('in cell',), ('in hall',)))


if __name__ == "__main__":
    unittest.main()
