"""Point 14: plays."""

import random
import time
import unittest

import slow
import slow_papers
from test_searching import counter
from wishroads.errors import BadDeed, BadTask, NothingBack
from wishroads.plays import Play
from wishroads.searching import first_plan
from wishroads.worlds import sample, task_of
from wrong import OTHERS, WRONG_TASKS, LikeAll

# Two ways to c of price 3, by b or at once; trap leads to t, from which there is no way; from c it goes back to a.
FORK = (
    (
        ("dear", ("a",), (), ("c",), ("a",), 9),
        ("far", ("a",), (), ("b",), ("a",), 1),
        ("late", ("b",), (), ("c",), ("b",), 2),
        ("near", ("a",), (), ("c",), ("a",), 3),
        ("trap", ("a",), ("t",), ("t",), ("a",), 1),
        ("turn", ("c",), (), ("a",), ("c",), 4),
    ),
    ("a",),
    ("c",),
)

# All that a play tells, besides what do and undo return.
TELLS = ("state", "path", "price", "open_deeds", "is_done", "price_left", "hints", "wasted")


def told(play):
    return [getattr(play, name)() for name in TELLS]


class Fork(unittest.TestCase):

    def test_the_beginning(self):
        play = Play(FORK)
        self.assertEqual(told(play), [("a",), (), 0, ("dear", "far", "near", "trap"), False, 3, ("far", "near"), 0])

    def test_deeds(self):
        play = Play(FORK)
        self.assertEqual(play.do("far"), ("b",))
        self.assertEqual(told(play), [("b",), ("far",), 1, ("late",), False, 2, ("late",), 0])
        self.assertEqual(play.do("late"), ("c",))
        self.assertEqual(told(play), [("c",), ("far", "late"), 3, ("turn",), True, 0, (), 0])
        self.assertEqual(play.do("turn"), ("a",))
        self.assertEqual(told(play), [("a",), ("far", "late", "turn"), 7, ("dear", "far", "near", "trap"), False, 3,
                                      ("far", "near"), 7])
        self.assertEqual(play.do("dear"), ("c",))
        self.assertEqual(told(play), [("c",), ("far", "late", "turn", "dear"), 16, ("turn",), True, 0, (), 13])

    def test_without_a_way(self):
        play = Play(FORK)
        self.assertEqual(play.do("trap"), ("t",))
        self.assertEqual(told(play), [("t",), ("trap",), 1, (), False, None, (), None])
        self.assertEqual(play.undo(), "trap")
        self.assertEqual(told(play), told(Play(FORK)))

    def test_undo(self):
        play = Play(FORK)
        for name in ("far", "late", "turn", "near"):
            play.do(name)
        self.assertEqual([play.undo(), play.undo()], ["near", "turn"])
        self.assertEqual(told(play), [("c",), ("far", "late"), 3, ("turn",), True, 0, (), 0])
        self.assertEqual([play.undo(), play.undo()], ["late", "far"])
        self.assertEqual(told(play), told(Play(FORK)))
        self.assertEqual(play.do("near"), ("c",))
        self.assertEqual(play.path(), ("near",))

    def test_undo_of_an_empty_path(self):
        play = Play(FORK)
        for _ in range(2):
            with self.assertRaises(NothingBack):
                play.undo()
        self.assertEqual(told(play), told(Play(FORK)))
        play.do("far")
        self.assertEqual(play.undo(), "far")
        with self.assertRaises(NothingBack):
            play.undo()
        self.assertEqual(play.do("near"), ("c",))

    def test_values_that_name_no_deed_that_can_be_done(self):
        play = Play(FORK)
        play.do("far")
        for value in [*OTHERS, "far", "near", "turn", "none", "Late", "late ", b"late", ("late",), ["late"], {"late"},
                      {"late": 1}, LikeAll(), 2, (("late",),), "b"]:
            with self.assertRaises(BadDeed) as caught:
                play.do(value)
            self.assertIsNone(caught.exception.index)
        self.assertEqual(told(play), [("b",), ("far",), 1, ("late",), False, 2, ("late",), 0])
        self.assertEqual(play.do("late"), ("c",))

    def test_deeds_that_are_barred(self):
        task = ((("go", (), ("x",), ("w",), (), 1), ("set", (), ("x",), ("x",), (), 1)), (), ("w",))
        play = Play(task)
        self.assertEqual(play.do("set"), ("x",))
        for name in ("go", "set"):
            with self.assertRaises(BadDeed):
                play.do(name)
        self.assertEqual(told(play), [("x",), ("set",), 1, (), False, None, (), None])

    def test_deeds_that_change_nothing_count(self):
        task = ((("stay", (), (), (), (), 9),), ("a",), ("a",))
        play = Play(task)
        self.assertEqual([play.do("stay"), play.do("stay")], [("a",), ("a",)])
        self.assertEqual(told(play), [("a",), ("stay", "stay"), 18, ("stay",), True, 0, (), 18])

    def test_hints_are_none_at_the_wish(self):
        play = Play(((("set", (), (), ("w",), (), 1), ("wipe", (), (), (), ("w",), 1)), ("w",), ("w",)))
        self.assertEqual(told(play), [("w",), (), 0, ("set", "wipe"), True, 0, (), 0])
        play.do("wipe")
        self.assertEqual(told(play), [(), ("wipe",), 1, ("set", "wipe"), False, 1, ("set",), 2])

    def test_plays_are_apart(self):
        first, second = Play(FORK), Play(FORK)
        first.do("far")
        self.assertEqual(second.path(), ())
        self.assertEqual(second.do("near"), ("c",))
        self.assertEqual(first.path(), ("far",))

    def test_what_is_told_stays(self):
        play = Play(FORK)
        play.do("far")
        path = play.path()
        play.do("late")
        play.undo()
        play.undo()
        self.assertEqual(path, ("far",))


class Edges(unittest.TestCase):

    def test_tasks_without_a_plan(self):
        play = Play((FORK[0], ("a",), ("a", "c")))
        self.assertEqual(told(play), [("a",), (), 0, ("dear", "far", "near", "trap"), False, None, (), None])
        play.do("far")
        self.assertEqual(told(play), [("b",), ("far",), 1, ("late",), False, None, (), None])

    def test_no_deeds(self):
        self.assertEqual(told(Play(((), (), ()))), [(), (), 0, (), True, 0, (), 0])
        self.assertEqual(told(Play(((), ("a",), ("b",)))), [("a",), (), 0, (), False, None, (), None])
        with self.assertRaises(NothingBack):
            Play(((), (), ())).undo()
        with self.assertRaises(BadDeed):
            Play(((), (), ())).do("go")

    def test_an_empty_wish(self):
        self.assertEqual(told(Play((FORK[0], ("a",), ()))),
                         [("a",), (), 0, ("dear", "far", "near", "trap"), True, 0, (), 0])

    def test_wrong_tasks(self):
        for value, word in WRONG_TASKS:
            with self.assertRaises(BadTask) as caught:
                Play(value)
            self.assertEqual(caught.exception.word, word)
        for value in OTHERS:
            with self.assertRaises(BadTask):
                Play(value)

    def test_methods_are_defined_in_the_class(self):
        for name in ("do", "undo", *TELLS):
            self.assertIn(name, vars(Play))


class Long(unittest.TestCase):

    def test_many_calls(self):
        signs = tuple("abcdefghij")
        deeds = [("set " + sign, (), (), (sign,), (), 9) for sign in signs]
        deeds += [("clear " + sign, (), (), (), (sign,), 1) for sign in signs[:4]]
        task = (tuple(sorted(deeds)), (), signs)
        begun = time.monotonic()
        play, chance, done = Play(task), random.Random(1), []
        for _ in range(20000):
            if done and chance.random() < 0.3:
                self.assertEqual(play.undo(), done.pop())
            else:
                done.append(chance.choice(play.open_deeds()))
                play.do(done[-1])
            self.assertEqual(play.price_left(), 9 * (10 - len(play.state())))
            self.assertEqual(play.hints(), tuple("set " + sign for sign in signs if sign not in play.state()))
            self.assertEqual(play.wasted(), play.price() + play.price_left() - 90)
        self.assertEqual(play.path(), tuple(done))
        while done:
            self.assertEqual(play.undo(), done.pop())
        self.assertEqual(told(play)[:3], [(), (), 0])
        self.assertLess(time.monotonic() - begun, 20)

    def test_the_longest_cheapest_plan(self):
        task = counter(10)
        begun = time.monotonic()
        play = Play(task)
        for name in first_plan(task):
            self.assertEqual(play.hints(), (name,))
            play.do(name)
            self.assertEqual(play.wasted(), 0)
        self.assertEqual((play.is_done(), play.price(), play.price_left()), (True, 1023, 0))
        self.assertLess(time.monotonic() - begun, 10)


class Random(unittest.TestCase):

    def test_beside_slow_reckonings(self):
        many = {"done": 0, "undone": 0, "wrong": 0, "nothing": 0, "wish": 0, "hints": 0, "wasted": 0, "no way": 0}
        for seed in range(500):
            task, chance = slow.random_task(seed), random.Random(seed)
            play = Play(task)
            trail = [(None, 0, frozenset(task[1]))]
            for _ in range(12):
                self.go_on(task, play, trail, chance, many)
                self.compare(task, play, trail, many)
        for kind in many:
            self.assertGreater(many[kind], 100, kind)

    def go_on(self, task, play, trail, chance, many):
        """Do or undo something that is drawn, in the play and in the trail beside it."""
        steps = {step[0]: step for step in slow.steps(task, trail[-1][2])}
        names = [deed[0] for deed in task[0]] + ["none", None]
        name = chance.choice([*steps, *steps, *names])
        if chance.random() < 0.2:
            if len(trail) == 1:
                self.assertRaises(NothingBack, play.undo)
                many["nothing"] += 1
            else:
                self.assertEqual(play.undo(), trail.pop()[0])
                many["undone"] += 1
        elif name in steps:
            _, cost, behind = steps[name]
            trail.append((name, cost, behind))
            self.assertEqual(play.do(name), tuple(sorted(behind)))
            many["done"] += 1
        else:
            self.assertRaises(BadDeed, play.do, name)
            many["wrong"] += 1

    def compare(self, task, play, trail, many):
        state = tuple(sorted(trail[-1][2]))
        paid = sum(step[1] for step in trail)
        left, least = slow.price_left(task, state), slow.price_left(task, task[1])
        wasted = None if left is None else paid + left - least
        names = tuple(step[0] for step in trail[1:])
        open_names = tuple(step[0] for step in slow.steps(task, trail[-1][2]))
        hints = slow_papers.hints(task, state)
        self.assertEqual(told(play), [state, names, paid, open_names, set(state) >= set(task[2]), left, hints, wasted])
        many["wish"] += play.is_done()
        many["hints"] += hints != ()
        many["wasted"] += bool(wasted)
        many["no way"] += left is None


class Example(unittest.TestCase):

    def test_the_example_of_the_interface(self):
        task = task_of(sample('lift'))
        play = Play(task)
        found = [play.do('go high low'), play.hints(), play.price_left(), play.wasted(), play.open_deeds(), play.undo(),
                 play.path(), play.is_done()]
        self.assertEqual(found, [('at ann low', 'lift low'), ('enter ann low',), 4, 0, ('enter ann low', 'go low high'),
                                 'go high low', (), False])


if __name__ == "__main__":
    unittest.main()
