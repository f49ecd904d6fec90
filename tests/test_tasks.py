"""Points 1 to 3: tasks, facts, states, open deeds, runs, prices and plans."""

import copy
import unittest

import slow
from wishroads.errors import BadDeed, BadState, BadTask
from wishroads.tasks import done, facts, is_plan, is_task, open_deeds, price, run
from wrong import OTHERS, LikeAll

GO = ("go", ("a",), (), ("b",), ("a",), 2)
TASK = ((GO,), ("a",), ("b",))
STAYS = ("stay", (), (), (), (), 1)

# A task with something in each row: what is asked of deeds that need, bar, add and strike several facts.
DEEDS = (
    ("a bar", (), ("w", "x"), (), (), 1),
    ("add", (), (), ("w", "x"), (), 9),
    ("both", ("w", "x"), (), ("w",), ("x",), 3),
    ("need", ("w", "x"), (), (), ("w", "x"), 4),
    ("swap", ("w",), ("x",), ("x", "y"), ("w", "z"), 5),
)
FULL = (DEEDS, ("w", "z"), ("x",))


def task_with(deed):
    return ((deed,), ("a",), ("b",))


def many_deeds(many):
    return tuple((f"d{at:02}", (), (), (), (), 1) for at in range(many))


def many_facts(many):
    return tuple(f"f{at:02}" for at in range(many))


class Told(unittest.TestCase):
    """The word that BadTask tells, for any value."""

    def told(self, value, word):
        self.assertIs(is_task(value), word is None)
        if word is None:
            self.assertIsInstance(facts(value), tuple)
            return
        calls = (facts, lambda task: open_deeds(task, ()), lambda task: done(task, (), "go"),
                 lambda task: run(task, ()), lambda task: price(task, ()), lambda task: is_plan(task, ()))
        for call in calls:
            with self.assertRaises(BadTask) as caught:
                call(value)
            self.assertEqual(caught.exception.word, word)

    def test_tasks(self):
        for value in (TASK, FULL, ((), (), ()), ((), ("a",), ()), ((), (), ("a",)), ((STAYS,), (), ())):
            self.told(value, None)

    def test_form(self):
        for value in OTHERS:
            if not isinstance(value, tuple) or len(value) != 3:
                self.told(value, "form")
        self.told(list(TASK), "form")
        self.told(TASK[:2], "form")
        self.told(TASK + ((),), "form")
        self.told((), "form")

    def test_deeds_are_a_tuple_of_deeds(self):
        for value in OTHERS:
            if value != ():
                self.told((value, ("a",), ("b",)), "deeds")
            self.told(((value,), ("a",), ("b",)), "deeds")
            self.told(((GO, value), ("a",), ("b",)), "deeds")
        self.told(([GO], ("a",), ("b",)), "deeds")
        self.told(((list(GO),), ("a",), ("b",)), "deeds")
        self.told(((GO[:5],), ("a",), ("b",)), "deeds")
        self.told(((GO + (1,),), ("a",), ("b",)), "deeds")

    def test_at_most_14_deeds(self):
        self.told((many_deeds(14), (), ()), None)
        self.told((many_deeds(15), (), ()), "deeds")
        self.told((many_deeds(500), (), ()), "deeds")

    def test_names_of_deeds(self):
        for name in ("g", "g" * 40, " ", "\n", "\u00e4" * 40):
            self.told(task_with((name, *GO[1:])), None)
        for name in ("", "g" * 41, 1, None, b"go", ("go",), ["go"], True):
            self.told(task_with((name, *GO[1:])), "deeds")

    def test_rows_of_facts_of_deeds(self):
        for at in (1, 2, 3, 4):
            deed = ["go", (), (), (), (), 1]
            for row in (("a",), ("a", "b"), ("A", "a"), ("a", "aa"), ("f" * 40,), (" ",)):
                deed[at] = row
                self.told(task_with(tuple(deed)), None)
            wrong_rows = [("b", "a"), ("a", "a"), ["a"], ("",), ("f" * 41,), "a", None, 1, True, {"a"}, {"a": 1},
                          (1,), (None,), (("a",),), (["a"],), ("a", 1), ("a", None), (1, "a"), ("a", ["b"]), (b"a",)]
            for row in wrong_rows:
                deed[at] = row
                self.told(task_with(tuple(deed)), "deeds")

    def test_no_fact_needed_and_barred_or_added_and_struck(self):
        self.told(task_with(("go", ("a",), ("a",), (), (), 1)), "deeds")
        self.told(task_with(("go", ("a", "b"), ("b", "c"), (), (), 1)), "deeds")
        self.told(task_with(("go", (), (), ("a",), ("a",), 1)), "deeds")
        self.told(task_with(("go", (), (), ("b", "c"), ("a", "b"), 1)), "deeds")
        self.told(task_with(("go", ("a",), ("b",), ("a",), ("b",), 1)), None)
        self.told(task_with(("go", ("a",), ("b",), ("b",), ("a",), 1)), None)

    def test_prices(self):
        for cost in range(1, 10):
            self.told(task_with(GO[:5] + (cost,)), None)
        for cost in (0, 10, -1, 100, True, False, 1.0, "1", None, (1,), [1]):
            self.told(task_with(GO[:5] + (cost,)), "deeds")

    def test_names_ascend(self):
        first, second = ("a", (), (), (), (), 1), ("b", (), (), (), (), 1)
        self.told(((first, second), (), ()), None)
        self.told(((second, first), (), ()), "names")
        self.told(((first, first), (), ()), "names")
        self.told(((first, ("a", ("x",), (), (), (), 2)), (), ()), "names")
        self.told(((first, second, first), (), ()), "names")

    def test_begin_and_wish(self):
        for row in (["a"], ("b", "a"), ("a", "a"), ("",), ("f" * 41,), "a", None, 1, True, (1,), (("a",),), (["a"],)):
            self.told(((GO,), row, ("b",)), "begin")
            self.told(((GO,), ("a",), row), "wish")
            self.told(((GO,), row, row), "begin")

    def test_at_most_10_facts(self):
        self.told(((), many_facts(10), ()), None)
        self.told(((), many_facts(11), ()), "facts")
        self.told(((), (), many_facts(11)), "facts")
        self.told(((), many_facts(10), many_facts(10)), None)
        self.told(((), many_facts(10), ("z",)), "facts")
        for at in (1, 2, 3, 4):
            deed = ["go", (), (), (), (), 1]
            deed[at] = ("z",)
            self.told(((tuple(deed),), many_facts(9), ()), None)
            self.told(((tuple(deed),), many_facts(10), ()), "facts")
            deed[at] = many_facts(11)
            self.told(((tuple(deed),), (), ()), "facts")

    def test_the_first_word_is_told(self):
        wrong_deed, wrong_facts = ("go", (), (), (), (), 0), ("b", "a")
        late, early = ("z", (), (), (), (), 1), ("a", (), (), (), (), 1)
        self.told((((wrong_deed,)), wrong_facts), "form")
        self.told(((late, early, wrong_deed), wrong_facts, wrong_facts), "deeds")
        self.told(((late, early), wrong_facts, wrong_facts), "names")
        self.told(((early, late), wrong_facts, many_facts(11)), "begin")
        self.told(((early, late), many_facts(11), wrong_facts), "wish")
        self.told(((early, late), many_facts(11), ()), "facts")

    def test_arguments_are_not_changed(self):
        value = ([["go", ["b", "a"], [], {"a": 1}, [], 1]], ["b", "a"], {"x": [1]})
        kept = copy.deepcopy(value)
        self.assertFalse(is_task(value))
        self.assertFalse(is_task(list(value)))
        self.assertFalse(is_plan(TASK, value))
        self.assertEqual(value, kept)


class States(unittest.TestCase):

    def test_facts(self):
        self.assertEqual(facts(TASK), ("a", "b"))
        self.assertEqual(facts(FULL), ("w", "x", "y", "z"))
        self.assertEqual(facts(((), ("b",), ("a", "c"))), ("a", "b", "c"))
        self.assertEqual(facts(((), (), ())), ())
        rows = (("n",), ("m",), ("l",), ("k",))
        self.assertEqual(facts(((("go", *rows, 1),), ("z",), ("a",))), ("a", "k", "l", "m", "n", "z"))

    def test_open_deeds(self):
        self.assertEqual(open_deeds(FULL, ()), ("a bar", "add"))
        self.assertEqual(open_deeds(FULL, ("w",)), ("add", "swap"))
        self.assertEqual(open_deeds(FULL, ("w", "x")), ("add", "both", "need"))
        self.assertEqual(open_deeds(FULL, ("y",)), ("a bar", "add"))
        self.assertEqual(open_deeds(FULL, ("w", "x", "y", "z")), ("add", "both", "need"))
        self.assertEqual(open_deeds(((), (), ()), ()), ())

    def test_done(self):
        self.assertEqual(done(TASK, ("a",), "go"), ("b",))
        self.assertEqual(done(TASK, ("a", "b"), "go"), ("b",))
        self.assertEqual(done(FULL, ("y",), "add"), ("w", "x", "y"))
        self.assertEqual(done(FULL, ("w", "x"), "both"), ("w",))
        self.assertEqual(done(FULL, ("w", "x", "z"), "need"), ("z",))
        self.assertEqual(done(FULL, ("w", "z"), "swap"), ("x", "y"))
        self.assertEqual(done(FULL, (), "a bar"), ())

    def test_done_wrong(self):
        for name in ("need", "swap", "", "none", "A BAR", None, 0, True, b"add", ["add"], ("add",), {}, object(),
                     LikeAll()):
            with self.assertRaises(BadDeed) as caught:
                done(FULL, (), name)
            self.assertIsNone(caught.exception.index)

    def test_states(self):
        wrong_states = [("c",), ("a", "c"), ("b", "a"), ("a", "a"), ["a"], [], None, True, 0, "a", "", {"a"}, (1,),
                        (None,), (["a"],), (("a",),), ("a", 1), ("",), ("f" * 41,)]
        for state in wrong_states:
            with self.assertRaises(BadState):
                open_deeds(TASK, state)
            with self.assertRaises(BadState):
                done(TASK, state, "go")
        for state in ((), ("a",), ("b",), ("a", "b")):
            self.assertIsInstance(open_deeds(TASK, state), tuple)

    def test_errors_come_in_the_order_of_the_arguments(self):
        with self.assertRaises(BadTask):
            done(None, None, None)
        with self.assertRaises(BadTask):
            open_deeds(None, None)
        with self.assertRaises(BadState):
            done(TASK, None, None)
        for call in (run, price, is_plan):
            with self.assertRaises(BadTask):
                call(None, None)


class Plans(unittest.TestCase):

    def test_run(self):
        self.assertEqual(run(TASK, ()), (("a",),))
        self.assertEqual(run(TASK, ("go",)), (("a",), ("b",)))
        self.assertEqual(run(FULL, ("add", "both", "swap")), (("w", "z"), ("w", "x", "z"), ("w", "z"), ("x", "y")))

    def test_price(self):
        self.assertEqual(price(TASK, ()), 0)
        self.assertEqual(price(FULL, ("add", "both", "swap")), 17)
        self.assertEqual(price(FULL, ("add", "both", "add", "both")), 24)

    def test_run_and_price_wrong(self):
        rows = [(("go", "go"), 1), (("no", "go"), 0), (("go", "no"), 1), ((None,), 0), ((["go"],), 0),
                (("go", ("go",)), 1), ((0, 0), 0), (("go", {}, []), 1)]
        rows += [(value, None) for value in (["go"], "go", "", None, 0, True, {}, [], {"go"})]
        for names, index in rows:
            for call in (run, price):
                with self.assertRaises(BadDeed) as caught:
                    call(TASK, names)
                self.assertEqual(caught.exception.index, index)

    def test_is_plan(self):
        self.assertIs(is_plan(TASK, ("go",)), True)
        self.assertIs(is_plan(FULL, ("add", "both", "swap")), True)
        self.assertIs(is_plan(FULL, ("swap",)), True)
        for value in ((), ("go", "go"), ("no",), ["go"], "go", None, 0, True, (None,), (["go"],), {}):
            self.assertIs(is_plan(TASK, value), False)
        self.assertIs(is_plan(FULL, ()), False)
        self.assertIs(is_plan(FULL, ("add", "both")), False)

    def test_all_facts_of_the_wish_must_stand(self):
        task = (DEEDS, ("w",), ("w", "x"))
        self.assertIs(is_plan(task, ("add",)), True)
        self.assertIs(is_plan(task, ()), False)
        self.assertIs(is_plan(task, ("swap",)), False)

    def test_an_empty_wish_and_no_deeds(self):
        self.assertIs(is_plan(((GO,), ("a",), ()), ()), True)
        self.assertIs(is_plan(((GO,), ("a",), ()), ("go",)), True)
        self.assertIs(is_plan(((), (), ()), ()), True)
        self.assertIs(is_plan(((), (), ("a",)), ()), False)
        self.assertEqual(run(((), ("a",), ()), ()), (("a",),))

    def test_long_rows(self):
        task = ((STAYS,), (), ())
        self.assertEqual(price(task, ("stay",) * 5000), 5000)
        self.assertEqual(len(run(task, ("stay",) * 5000)), 5001)

    def test_beside_slow_reckonings(self):
        for seed in range(200):
            task = slow.random_task(seed)
            self.assertTrue(is_task(task))
            state, names = frozenset(task[1]), ()
            for _ in range(6):
                moves = slow.steps(task, state)
                now = tuple(sorted(state))
                self.assertEqual(open_deeds(task, now), tuple(name for name, _, _ in moves))
                for name, _, behind in moves:
                    self.assertEqual(done(task, now, name), tuple(sorted(behind)))
                self.assertEqual(run(task, names)[-1], now)
                self.assertEqual(is_plan(task, names), state.issuperset(task[2]))
                if not moves:
                    break
                name, _, state = moves[seed % len(moves)]
                names += (name,)

    def test_the_example_of_the_interface(self):
        task = ((('go', ('a',), (), ('b',), ('a',), 2),), ('a',), ('b',))
        told = [is_task(task), facts(task), open_deeds(task, ('a',)), done(task, ('a',), 'go'), run(task, ('go',)),
                price(task, ('go',)), is_plan(task, ('go',)), is_plan(task, ())]
        self.assertEqual(told, [True, ('a', 'b'), ('go',), ('b',), (('a',), ('b',)), 2, True, False])


if __name__ == "__main__":
    unittest.main()
