"""Point 13: links, plans made shorter, orders, plans mended, safe states."""

import random
import time
import unittest

import slow
import slow_bounds
import slow_papers
from test_searching import counter
from wishroads.errors import BadPlan, BadState, BadTask, TooMany
from wishroads.plans import links, mended, order_count, safe_states, shortened
from wishroads.searching import first_plan
from wishroads.tasks import is_plan
from wishroads.worlds import sample, task_of
from wrong import NO_FACTS, OTHERS, WRONG_TASKS, LikeAll

# From a to c by b, at once or by d; idle changes nothing, more adds what stands.
DEEDS = (
    ("far", ("a",), (), ("b",), ("a",), 2),
    ("idle", (), (), (), (), 1),
    ("jump", ("a",), (), ("c",), ("a",), 6),
    ("late", ("b",), (), ("d",), ("b",), 1),
    ("later", ("d",), (), ("c",), ("d",), 2),
    ("more", ("b",), (), ("b",), (), 1),
    ("next", ("b",), (), ("c",), ("b",), 3),
)
TASK = (DEEDS, ("a",), ("c",))
PLAN = ("far", "next")

# Three deeds that are done in any order, each as often as one likes.
FREE = (tuple((name, (), (), (name,), (), 1) for name in ("p", "q", "r")), (), ("p", "q", "r"))

CALLS = (links, shortened, order_count, safe_states)

# Values that are no plans of TASK.
NO_PLANS = [value for value in OTHERS] + [(value,) for value in OTHERS] + [("far", "next", value) for value in OTHERS] + [
    (), ("far",), ("next",), ("next", "far"), ["far", "next"], ("far", "none"), ("far", "next", "next"), ("far", "next", ""),
    ("far", None), ("far", ("next",)), (("far", "next"),), ("far", ["next"]), ("far", LikeAll()), "far", ("far",) * 2,
    ("far", "late"), (b"far", b"next"), {"far": 1, "next": 1}, ("far", 1), ("far", True), ("idle",) * 11]


class Wrong(unittest.TestCase):

    def test_plans(self):
        for value in NO_PLANS:
            for call in (*[lambda call=call: call(TASK, value) for call in CALLS],
                         lambda: mended(TASK, value, 0, ("a",)), lambda: mended(TASK, value, None, None)):
                with self.assertRaises(BadPlan):
                    call()

    def test_tasks(self):
        for value, word in WRONG_TASKS:
            for plan in ((), None, PLAN):
                for call in (*[lambda call=call: call(value, plan) for call in CALLS],
                             lambda: mended(value, plan, None, None), lambda: mended(value, plan, 0, ())):
                    with self.assertRaises(BadTask) as caught:
                        call()
                    self.assertEqual(caught.exception.word, word)
        for value in OTHERS:
            for call in CALLS:
                with self.assertRaises(BadTask):
                    call(value, None)

    def test_arguments_are_not_changed(self):
        value = ["next", "far"]
        for call in CALLS:
            with self.assertRaises(BadPlan):
                call(TASK, value)
        with self.assertRaises(BadPlan):
            mended(TASK, value, 0, ("a",))
        self.assertEqual(value, ["next", "far"])


class Links(unittest.TestCase):

    def test_each_need_of_each_place(self):
        self.assertEqual(links(TASK, PLAN), ((-1, "a", 0), (0, "b", 1), (1, "c", 2)))
        self.assertEqual(links(TASK, ("jump",)), ((-1, "a", 0), (0, "c", 1)))
        self.assertEqual(links(TASK, ("idle", "far", "idle", "next", "idle")), ((-1, "a", 1), (1, "b", 3), (3, "c", 5)))

    def test_the_last_giver_counts(self):
        self.assertEqual(links(TASK, ("far", "more", "next")), ((-1, "a", 0), (0, "b", 1), (1, "b", 2), (2, "c", 3)))
        self.assertEqual(links(TASK, ("far", "more", "more", "next"))[2:], ((1, "b", 2), (2, "b", 3), (3, "c", 4)))
        stands = (DEEDS, ("a", "b"), ("c",))
        self.assertEqual(links(stands, ("more", "next")), ((-1, "b", 0), (0, "b", 1), (1, "c", 2)))
        self.assertEqual(links(stands, ("next",)), ((-1, "b", 0), (0, "c", 1)))

    def test_a_giver_that_does_not_need_what_it_adds_is_behind_its_own_place(self):
        task = ((("do", ("a",), (), ("a",), (), 1),), ("a",), ("a",))
        self.assertEqual(links(task, ("do", "do")), ((-1, "a", 0), (0, "a", 1), (1, "a", 2)))

    def test_several_needs_ascend(self):
        deeds = (("do", ("a", "b", "c"), (), ("b", "d"), (), 1), ("pre", (), (), ("b",), (), 1))
        task = (deeds, ("a", "b", "c"), ("a", "b", "d"))
        self.assertEqual(links(task, ("pre", "do")), ((-1, "a", 1), (0, "b", 1), (-1, "c", 1), (-1, "a", 2), (1, "b", 2),
                                                      (1, "d", 2)))

    def test_the_empty_plan(self):
        self.assertEqual(links(((), (), ()), ()), ())
        self.assertEqual(links(((), ("a", "b"), ("a", "b")), ()), ((-1, "a", 0), (-1, "b", 0)))
        self.assertEqual(links((DEEDS, ("a",), ()), ("idle",)), ())


class Shortened(unittest.TestCase):

    def test_needless_deeds(self):
        self.assertEqual(shortened(TASK, PLAN), PLAN)
        self.assertEqual(shortened(TASK, ("idle", "far", "idle", "more", "next", "idle", "idle")), PLAN)
        self.assertEqual(shortened(TASK, ("far", "late", "later")), ("far", "late", "later"))
        self.assertEqual(shortened((DEEDS, ("a", "c"), ("c",)), ("far", "next")), ())
        self.assertEqual(shortened((DEEDS, ("a",), ()), ("far", "next")), ())
        self.assertEqual(shortened(((), (), ()), ()), ())

    def test_the_last_goes_first(self):
        self.assertEqual(shortened(FREE, ("p", "q", "p", "r", "q")), ("p", "q", "r"))
        two = ((("x", (), (), ("w",), (), 1), ("y", (), (), ("w",), (), 1)), (), ("w",))
        self.assertEqual(shortened(two, ("x", "y")), ("x",))
        self.assertEqual(shortened(two, ("y", "x")), ("y",))
        self.assertEqual(shortened(two, ("y", "x", "y", "x")), ("y",))

    def test_each_is_asked_once_alone(self):
        # Round and back again is needless together, not each for itself.
        deeds = (("back", ("b",), (), ("a",), ("b",), 1), ("go", ("a",), (), ("b",), ("a",), 1))
        task = (deeds, ("a",), ("a",))
        self.assertEqual(shortened(task, ("go", "back")), ("go", "back"))
        free = ((("back", (), (), ("a",), ("b",), 1), ("go", ("a",), (), ("b",), ("a",), 1)), ("a",), ("a",))
        self.assertEqual(shortened(free, ("go", "back")), ("back",))
        self.assertEqual(shortened(free, ("back", "go", "back")), ("back",))
        # Clear was asked ahead of set, without which it is needless.
        deeds = (("clear", (), (), (), ("x",), 1), ("go", (), ("x",), ("w",), (), 1), ("set", (), (), ("x",), (), 1))
        self.assertEqual(shortened((deeds, (), ("w",)), ("set", "clear", "go")), ("clear", "go"))
        self.assertEqual(shortened((deeds, (), ("w",)), ("clear", "go")), ("go",))

    def test_bars_are_kept(self):
        deeds = (("clear", (), (), (), ("x",), 1), ("go", (), ("x",), ("w",), (), 1), ("set", (), (), ("x",), (), 1))
        task = (deeds, ("x",), ("w",))
        self.assertEqual(shortened(task, ("clear", "go")), ("clear", "go"))
        self.assertEqual(shortened(task, ("clear", "set", "clear", "go", "set")), ("clear", "go"))
        self.assertEqual(shortened((deeds, (), ("w", "x")), ("set", "clear", "go", "set")), ("clear", "go", "set"))
        self.assertEqual(shortened((deeds, (), ("w", "x")), ("clear", "go", "set")), ("go", "set"))


class Orders(unittest.TestCase):

    def test_orders(self):
        self.assertEqual(order_count(TASK, PLAN), 1)
        self.assertEqual(order_count(TASK, ("idle", "far", "next")), 3)
        self.assertEqual(order_count(TASK, ("far", "more", "next")), 1)
        self.assertEqual(order_count(FREE, ("p", "q", "r")), 6)
        self.assertEqual(order_count(((), (), ()), ()), 1)
        self.assertEqual(order_count((DEEDS, ("c",), ("c",)), ()), 1)

    def test_places_with_the_same_deed_are_unlike(self):
        self.assertEqual(order_count(FREE, ("p", "p", "q", "r")), 24)
        self.assertEqual(order_count(TASK, ("idle", "idle", "far", "next")), 12)
        self.assertEqual(order_count(TASK, ("far", "more", "more", "next")), 2)

    def test_the_wish_stands_at_the_end(self):
        deeds = (("set", (), (), ("w",), (), 1), ("wipe", (), (), (), ("w",), 1))
        self.assertEqual(order_count((deeds, (), ("w",)), ("wipe", "set")), 1)
        self.assertEqual(order_count((deeds, (), ()), ("wipe", "set")), 2)
        self.assertEqual(order_count((deeds, (), ("w",)), ("set", "wipe", "set")), 4)

    def test_deeds_may_be_barred(self):
        deeds = (("first", (), ("x",), (), (), 1), ("set", (), (), ("x",), (), 1))
        self.assertEqual(order_count((deeds, (), ("x",)), ("first", "set")), 1)
        self.assertEqual(order_count((deeds, (), ("x",)), ("first", "first", "set", "set")), 4)

    def test_at_most_10_deeds(self):
        idle = (DEEDS, ("c",), ("c",))
        self.assertEqual(order_count(idle, ("idle",) * 9), 362880)
        self.assertEqual(order_count(idle, ("idle",) * 10), 3628800)
        for many in (11, 12, 100):
            with self.assertRaises(TooMany) as caught:
                order_count(idle, ("idle",) * many)
            self.assertEqual(caught.exception.most, 10)
        with self.assertRaises(BadPlan):
            order_count(TASK, ("idle",) * 11)
        with self.assertRaises(BadPlan):
            order_count(idle, ("idle",) * 11 + ("none",))

    def test_ten_unlike_deeds(self):
        signs = tuple("abcdefghij")
        begun = time.monotonic()
        free = (tuple((sign, (), (), (sign,), (), 1) for sign in signs), (), signs)
        self.assertEqual(order_count(free, signs), 3628800)
        chain = (tuple((sign, tuple(signs[:at]), (), (sign,), (), 1) for at, sign in enumerate(signs)), (), signs)
        self.assertEqual(order_count(chain, signs), 1)
        ring = tuple((sign, (), (), (sign,), (signs[(at + 1) % 10],), 1) for at, sign in enumerate(signs))
        self.assertEqual(order_count((ring, (), ()), signs), 3628800)
        self.assertEqual(order_count((ring, (), ("a",)), ("b", "a")), 2)
        for seed in range(20):
            chance = random.Random(seed)
            deeds = []
            for at in range(14):
                adds = set(chance.sample(signs, 5))
                strikes = set(chance.sample(signs, 5)) - adds
                deeds.append((f"d{at:02}", (), (), tuple(sorted(adds)), tuple(sorted(strikes)), 1))
            plan = tuple(deed[0] for deed in chance.sample(deeds, 10))
            self.assertEqual(order_count((tuple(deeds), (), ()), plan), 3628800)
        self.assertLess(time.monotonic() - begun, 20)


class Mended(unittest.TestCase):

    def test_the_rest_where_it_leads_to_the_wish(self):
        self.assertEqual(mended(TASK, PLAN, 0, ("a",)), PLAN)
        self.assertEqual(mended(TASK, PLAN, 1, ("b",)), ("next",))
        self.assertEqual(mended(TASK, PLAN, 2, ("c",)), ())
        self.assertEqual(mended(TASK, PLAN, 2, ("a", "c")), ())
        dear = ("idle", "far", "idle", "more", "next")
        self.assertEqual(mended(TASK, dear, 0, ("a",)), dear)
        self.assertEqual(mended(TASK, dear, 2, ("b",)), ("idle", "more", "next"))
        self.assertEqual(mended(TASK, dear, 2, ("b", "c", "d")), ("idle", "more", "next"))
        self.assertEqual(mended(TASK, dear, 5, ("c",)), ())

    def test_the_first_of_the_cheapest_ways_otherwise(self):
        self.assertEqual(mended(TASK, PLAN, 0, ("b",)), ("late", "later"))
        self.assertEqual(mended(TASK, PLAN, 1, ("a",)), ("far", "late", "later"))
        self.assertEqual(mended(TASK, PLAN, 2, ("a",)), ("far", "late", "later"))
        self.assertEqual(mended(TASK, PLAN, 2, ("d",)), ("later",))
        self.assertEqual(mended(TASK, PLAN, 0, ("c",)), ())
        self.assertEqual(mended(TASK, PLAN, 1, ("c", "d")), ())
        self.assertEqual(mended(TASK, ("jump",), 1, ("a", "d")), ("later",))

    def test_no_way(self):
        for at in (0, 1, 2):
            self.assertIsNone(mended(TASK, PLAN, at, ()))
        self.assertIsNone(mended((DEEDS, ("a", "b"), ("a", "c")), ("next",), 1, ("d",)))

    def test_the_empty_plan(self):
        self.assertEqual(mended(((), (), ()), (), 0, ()), ())
        self.assertEqual(mended((DEEDS, ("c",), ("c",)), (), 0, ("c",)), ())
        self.assertEqual(mended((DEEDS, ("c",), ("c",)), (), 0, ("d",)), ("later",))
        self.assertIsNone(mended((DEEDS, ("c",), ("c",)), (), 0, ()))

    def test_the_states_need_not_be_met(self):
        task = ((("go", ("x",), (), ("w",), (), 7), ("stay", (), (), (), (), 1)), ("w",), ("w",))
        self.assertEqual(mended(task, ("stay",), 0, ("x",)), ("go",))
        self.assertEqual(mended(task, ("stay",), 1, ("x",)), ("go",))
        self.assertIsNone(mended(task, ("stay",), 1, ()))

    def test_places(self):
        for at in (-1, 3, 4, 10 ** 30, -10 ** 30, True, False, None, 0.0, 1.0, "0", (), (0,), [], {}, object(), LikeAll()):
            for state in (("a",), None, ("none",)):
                with self.assertRaises(BadPlan):
                    mended(TASK, PLAN, at, state)
        for at in (-1, 1, True, False, None):
            with self.assertRaises(BadPlan):
                mended(((), (), ()), (), at, ())

    def test_states(self):
        for state in NO_FACTS:
            for at in (0, 1, 2):
                with self.assertRaises(BadState):
                    mended(TASK, PLAN, at, state)
        for at in (0, 2):
            with self.assertRaises(BadState):
                mended(TASK, PLAN, at, ["a"])


class Safe(unittest.TestCase):

    def test_states(self):
        self.assertEqual(safe_states(TASK, PLAN), (("a",), ("b",), ("c",)))
        self.assertEqual(safe_states(TASK, ("idle", "far", "more", "next")), (("a",), ("a",), ("b",), ("b",), ("c",)))
        self.assertEqual(safe_states(FREE, ("p", "q", "r")), ((), ("p",), ("p", "q"), ("p", "q", "r")))
        self.assertEqual(safe_states(FREE, ("r", "q", "p")), ((), ("r",), ("q", "r"), ("p", "q", "r")))
        self.assertEqual(safe_states((DEEDS, ("a",), ()), PLAN), (("a",), ("b",), ()))

    def test_the_empty_plan(self):
        self.assertEqual(safe_states(((), (), ()), ()), ((),))
        self.assertEqual(safe_states(((), ("a", "b"), ("b",)), ()), (("b",),))

    def test_needs_that_are_added(self):
        task = ((("do", ("a",), (), ("a", "b"), (), 1),), ("a",), ("a", "b"))
        self.assertEqual(safe_states(task, ("do", "do")), (("a",), ("a",), ("a", "b")))

    def test_bars_and_strikes_are_not_looked_at(self):
        task = ((("go", ("a",), ("x",), ("b",), ("a", "y"), 1),), ("a", "y"), ("b",))
        self.assertEqual(safe_states(task, ("go",)), (("a",), ("b",)))


class Long(unittest.TestCase):

    def test_the_longest_cheapest_plan(self):
        task = counter(10)
        plan = first_plan(task)
        begun = time.monotonic()
        self.assertEqual(shortened(task, plan), plan)
        self.assertEqual(len(safe_states(task, plan)), 1024)
        self.assertEqual(links(task, plan), slow_papers.links(task, plan))
        self.assertEqual(mended(task, plan, 1000, safe_states(task, plan)[1000]), plan[1000:])
        self.assertEqual(mended(task, plan, 1023, ()), plan)
        self.assertLess(time.monotonic() - begun, 10)

    def test_very_long_plans(self):
        begun = time.monotonic()
        plan = ("idle", "far") + ("more", "idle") * 10000 + ("next", "idle")
        self.assertEqual(shortened(TASK, plan), PLAN)
        self.assertEqual(len(links(TASK, plan)), 10003)
        self.assertEqual(safe_states(TASK, plan)[-3:], (("b",), ("c",), ("c",)))
        self.assertEqual(mended(TASK, plan, 5, ("b",)), plan[5:])
        self.assertEqual(mended(TASK, plan, 5, ("d",)), ("later",))
        self.assertLess(time.monotonic() - begun, 20)


class Random(unittest.TestCase):

    def test_beside_slow_reckonings(self):
        many = {"plans": 0, "shorter": 0, "one order": 0, "some orders": 0, "all orders": 0, "rest": 0, "way": 0, "none": 0}
        for seed in range(4000):
            task, chance = slow.random_task(seed), random.Random(seed)
            plan = slow_papers.random_plan(task, chance)
            if plan is not None:
                many["plans"] += 1
                self.compare(task, plan, many)
                for state in slow_bounds.some_states(task, chance, 2):
                    self.compare_mended(task, plan, chance.randint(0, len(plan)), state, many)
        for kind in many:
            self.assertGreater(many[kind], 15, kind)

    def compare(self, task, plan, many):
        self.assertTrue(is_plan(task, plan))
        self.assertEqual(links(task, plan), slow_papers.links(task, plan))
        self.assertEqual(safe_states(task, plan), slow_papers.safe_states(task, plan))
        less = shortened(task, plan)
        self.assertEqual(less, slow_papers.shortened(task, plan))
        self.assertTrue(is_plan(task, less))
        many["shorter"] += less != plan
        if 2 <= len(plan) <= 5:
            count = order_count(task, plan)
            self.assertEqual(count, slow_papers.order_count(task, plan))
            most = (2, 6, 24, 120)[len(plan) - 2]
            many["one order" if count == 1 else "all orders" if count == most else "some orders"] += 1

    def compare_mended(self, task, plan, at, state, many):
        found = mended(task, plan, at, state)
        self.assertEqual(found, slow_papers.mended(task, plan, at, state))
        many["none" if found is None else "rest" if found == plan[at:] else "way"] += 1


class Example(unittest.TestCase):

    def test_the_example_of_the_interface(self):
        task = task_of(sample('keys'))
        plan = ('walk', 'take', 'back', 'unlock', 'leave')
        told = [links(task, plan)[3:], mended(task, plan, 3, ('in hall', 'key')),
                mended(task, plan, 3, ('in hall',)) == plan, safe_states(task, plan)[3:], order_count(task, plan),
                shortened(task, plan) == plan]
        self.assertEqual(told, [((2, 'in hall', 3), (1, 'key', 3), (2, 'in hall', 4), (3, 'open', 4), (4, 'in yard', 5)),
                                ('unlock', 'leave'), True, (('in hall', 'key'), ('in hall', 'open'), ('in yard',)), 1,
                                True])


if __name__ == "__main__":
    unittest.main()
