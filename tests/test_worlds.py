"""Points 15 and 16: the text of a world line by line, the task of it, and the samples."""

import random
import time
import unittest
from itertools import permutations

import slow
from wishroads.errors import BadNumber, BadText, TooMany
from wishroads.searching import first_plan
from wishroads.tasks import is_task
from wishroads.worlds import sample, task_of

LIFT = """kind floor low high
kind folk ann
fact lift floor
fact at folk floor
fact inside folk
deed go 2 X:floor Y:floor
needs lift X
adds lift Y
strikes lift X
deed enter 1 P:folk X:floor
needs lift X, at P X
adds inside P
strikes at P X
deed leave 1 P:folk X:floor
needs lift X, inside P
adds at P X
strikes inside P
begin lift high, at ann low
wish at ann high
"""

KEYS = """kind room hall cell yard
fact in room
fact key
fact open
deed walk 1
needs in hall
adds in cell
strikes in hall
deed back 1
needs in cell
adds in hall
strikes in cell
deed take 1
needs in cell
bars key
adds key
deed unlock 2
needs in hall, key
adds open
strikes key
deed leave 3
needs in hall, open
adds in yard
strikes in hall
begin in hall
wish in yard
"""

# Below these lines the deed under test stands.
HEAD = """kind k a b
kind l c
fact p k
fact q k l
fact r
"""
TAIL = "begin\nwish\n"


class Texts(unittest.TestCase):

    def wrong(self, text, line):
        with self.assertRaises(BadText) as caught:
            task_of(text)
        self.assertEqual(caught.exception.line, line, text)

    def right(self, text):
        task = task_of(text)
        self.assertTrue(is_task(task), text)
        return task

    def deed(self, *lines):
        """The text of a world with these lines of deeds; the first of them is line 5."""
        return HEAD + "".join(line + "\n" for line in lines) + TAIL


class Words(Texts):

    def kind_and_thing(self, word):
        return f"kind {word} z\ndeed d 1\n" + TAIL

    def test_words(self):
        for word in ("a", "a1", "zz9", "abcdefgh", "a1234567", "kind", "begin", "wish", "needs"):
            self.right(self.kind_and_thing(word))
            self.right(f"kind y {word}\ndeed d 1\n" + TAIL)
            self.right(f"fact {word}\ndeed d 1\nneeds {word}\n" + TAIL)
            self.right(f"deed {word} 1\n" + TAIL)

    def test_wrong_words(self):
        for word in ("", "1", "1a", "A", "aB", "a-b", "a_b", "abcdefghi", "a1234567b", "\u00e4", "a\u00e4", "a\u0661",
                     "a.", "a,", "a\t", "a\r", " a", "a ", "a:b"):
            self.wrong(self.kind_and_thing(word), 0)
            self.wrong(f"kind y {word}\ndeed d 1\n" + TAIL, 0)
            self.wrong(f"fact {word}\ndeed d 1\n" + TAIL, 0)
            self.wrong(f"deed {word} 1\n" + TAIL, 0)

    def test_no_word_names_two_things(self):
        rest = "deed d 1\n" + TAIL
        self.wrong("kind a a\n" + rest, 0)
        self.wrong("kind k a a\n" + rest, 0)
        self.wrong("kind k a\nkind k b\n" + rest, 1)
        self.wrong("kind k a\nkind l a\n" + rest, 1)
        self.wrong("kind k a\nkind l k\n" + rest, 1)
        self.wrong("kind k a\nkind a b\n" + rest, 1)
        self.wrong("kind k a\nfact k\n" + rest, 1)
        self.wrong("kind k a\nfact a\n" + rest, 1)
        self.wrong("fact p\nfact p\n" + rest, 1)
        self.wrong("kind k a\nfact p\nfact p k\n" + rest, 2)
        self.wrong("kind d a\n" + rest, 1)
        self.wrong("kind k d\n" + rest, 1)
        self.wrong("fact d\n" + rest, 1)
        self.wrong("deed d 1\ndeed d 1\n" + TAIL, 1)
        self.wrong("deed d 1\ndeed d 2\n" + TAIL, 1)


class Lines(Texts):

    def test_values_that_are_no_texts(self):
        for value in (None, 0, 1, True, b"", KEYS.encode(), [KEYS], (KEYS,), [], (), {}, object(), ""):
            self.wrong(value, 0)

    def test_texts_that_break_off(self):
        for text in (LIFT, KEYS):
            lines = text.split("\n")[:-1]
            self.wrong(text[:-1], len(lines) - 1)
            for many in range(len(lines)):
                broken = "".join(line + "\n" for line in lines[:many])
                self.wrong(broken, many)
                self.wrong(broken + lines[many], many)
                self.wrong(broken + lines[many][:3], many)

    def test_a_last_line_that_is_not_ended_goes_first(self):
        self.wrong("what\nkind a a", 1)
        self.wrong("what", 0)
        self.wrong("\n\nkind", 2)
        self.wrong(KEYS + " ", KEYS.count("\n"))
        self.wrong(" \n" + KEYS + "x", KEYS.count("\n") + 1)

    def test_lines_too_many(self):
        many = KEYS.count("\n")
        for more in ("\n", "wish\n", "wish in hall\n", "begin\n", "deed more 1\n", "kind z y\n", " \n"):
            self.wrong(KEYS + more, many)
            self.wrong(KEYS + more + "\n", many)

    def test_blanks(self):
        for text in (LIFT, KEYS):
            lines = text.split("\n")[:-1]
            for at, line in enumerate(lines):
                for wrong in (line + " ", " " + line, line.replace(" ", "  ", 1), line.replace(" ", "\t", 1), "",
                              line + "\r", line.upper(), line + "\x0b", line + ",", line + ", ", line + "\x85"):
                    self.wrong("".join(told + "\n" for told in lines[:at] + [wrong] + lines[at + 1:]), at)

    def test_the_sequence(self):
        lines = {"kind": "kind y x", "fact": "fact u", "deed": "deed e 1", "needs": "needs r", "bars": "bars r",
                 "adds": "adds r", "strikes": "strikes r", "begin": "begin", "wish": "wish"}
        behind = {"deed": "needs bars adds strikes deed begin", "needs": "bars adds strikes deed begin",
                  "bars": "adds strikes deed begin", "adds": "strikes deed begin", "strikes": "deed begin",
                  "begin": "wish", "wish": "", "kind": "kind fact deed", "fact": "fact deed"}
        ahead = {"kind": "kind k a\n", "fact": "fact r\n", "deed": "fact r\ndeed d 1\n"}
        for head in ("needs", "bars", "adds", "strikes", "begin"):
            ahead[head] = ahead["deed"] + lines[head] + "\n"
        ahead["wish"] = ahead["begin"] + "wish\n"
        for head, text in ahead.items():
            for other, line in lines.items():
                many = text.count("\n")
                if head == "kind" and other in ("needs", "bars", "adds", "strikes"):
                    self.wrong(text + line + "\n", many)
                elif other in behind[head].split():
                    if (head, other) == ("begin", "wish"):
                        self.right(text + line + "\n")
                    else:
                        self.wrong(text + line + "\n", many + 1)
                else:
                    self.wrong(text + line + "\n", many)

    def test_there_is_at_least_one_deed(self):
        self.wrong("begin\nwish\n", 0)
        self.wrong("kind k a\nfact p k\nbegin\nwish\n", 2)
        self.wrong("wish\n", 0)
        self.assertEqual(self.right("deed d 1\nbegin\nwish\n"), ((("d", (), (), (), (), 1),), (), ()))

    def test_kinds(self):
        for line in ("kind", "kind k", "kind ", "kind  a", "kind k ", "kinds k a", "Kind k a"):
            self.wrong(line + "\ndeed d 1\n" + TAIL, 0)

    def test_facts(self):
        for line in ("fact p", "fact p k", "fact p k k", "fact p k l k"):
            self.right("kind k a\nkind l b\n" + line + "\ndeed d 1\n" + TAIL)
        for line in ("fact", "fact ", "fact p ", "fact p m", "fact p a", "fact p k k k k", "fact p p", "fact p k:k",
                     "fact p k, l", "fact p deed"):
            self.wrong("kind k a\nkind l b\n" + line + "\ndeed d 1\n" + TAIL, 2)
        self.wrong("fact p k\nkind k a\ndeed d 1\n" + TAIL, 0)

    def test_deeds(self):
        for line in ("deed d 1", "deed d 9", "deed d 5 X:k", "deed d 1 A:k Z:l", "deed d 1 X:k Y:k M:l",
                     "deed d 1 X:k Y:k Z:k"):
            self.right(self.deed(line))
        for line in ("deed", "deed ", "deed d", "deed d ", "deed d 0", "deed d 10", "deed d -1", "deed d 01",
                     "deed d 1.", "deed d x", "deed d \u0661", "deed d \u00b9", "deed d 12", "deed 1 d", "deed d 1 ",
                     "deed d 1 X", "deed d 1 X:", "deed d 1 :k", "deed d 1 X:m", "deed d 1 X:a", "deed d 1 X:p",
                     "deed d 1 x:k", "deed d 1 XY:k", "deed d 1 1:k", "deed d 1 X:k:", "deed d 1 X:k:k",
                     "deed d 1 X:k X:k", "deed d 1 X:k X:l", "deed d 1 X:k Y:k Z:k W:k", "deed d 1 X :k",
                     "deed d 1 X: k", "deed d 1 X:k, Y:k", "deed d 1 \u00c4:k", "deed d 1 k", "deed d X:k", "deed d 1 k:X"):
            self.wrong(self.deed(line), 5)

    def test_atoms(self):
        for head in ("needs", "bars", "adds", "strikes"):
            for text in ("r", "p X", "p a", "p b", "q X c", "q X L", "q b L", "r, p X, q a c", "p X, p Y", "p Y, p X"):
                self.right(self.deed("deed d 1 X:k Y:k L:l", f"{head} {text}"))
            for text in ("", " ", "s", "d", "k", "a", "X", "p", "p c", "p L", "p Z", "p x", "p X Y", "p p", "p k",
                         "q", "q X", "q c X", "q X X", "q X c c", "r r", "r X", "p X,", "p X, ", ", p X", "p X,p Y",
                         "p X ,p Y", "p X , p Y", "p X,  p Y", "p X; p Y", "p X. p Y", "p X, s", "p X, p", "P X", "p:X",
                         "p X p Y"):
                self.wrong(self.deed("deed d 1 X:k Y:k L:l", f"{head} {text}"), 6)
            self.wrong(self.deed("deed d 1 X:k Y:k L:l", head), 6)

    def test_letters_are_of_their_own_deed(self):
        self.wrong(self.deed("deed d 1 X:k", "needs p X", "deed e 1 Y:k", "needs p X"), 8)
        self.right(self.deed("deed d 1 X:k", "needs p X", "deed e 1 X:l", "needs q a X"))
        self.wrong(self.deed("deed d 1 X:k", "needs p X", "deed e 1 X:l", "needs p X"), 8)

    def test_begin_and_wish(self):
        head = HEAD + "deed d 1 X:k\n"
        for text in ("", " p a", " r", " q b c, p a, r", " p a, p a"):
            self.right(head + f"begin{text}\nwish\n")
            self.right(head + f"begin\nwish{text}\n")
        for text in (" ", " p X", " p", " X", " p c", " p a,", " p a,r", " s", "s", " p a r", " p a  ", ", r"):
            self.wrong(head + f"begin{text}\nwish\n", 6)
            self.wrong(head + f"begin\nwish{text}\n", 7)

    def test_the_first_wrong_line_is_told(self):
        self.wrong("kind a a\nfact\nwhat\n", 0)
        self.wrong("kind a b\nfact\nwhat\n", 1)
        self.wrong("kind a b\nfact c\nwhat\n", 2)

    def test_beside_a_slow_reading(self):
        chance = random.Random(15)
        swaps = ["", " ", "  ", ",", ", ", "X", "Y", "P", "floor", "low", "lift", "ann", "at", "1", "9", "0", "kind a b",
                 "fact", "deed", "needs", "bars", "adds", "strikes", "begin", "wish", ":", "X:floor", "key", "in", "\n"]
        wrong = right = 0
        for _ in range(6000):
            text = chance.choice((LIFT, KEYS))
            lines = text.split("\n")[:-1]
            for _ in range(chance.choice((1, 1, 1, 2))):
                self.change(chance, lines, swaps)
            text = "\n".join(lines) + "\n"
            line = slow.first_wrong(text)
            if line is None:
                right += 1
                self.compare(text)
            else:
                wrong += 1
                self.wrong(text, line)
        self.assertGreater(wrong, 1000)
        self.assertGreater(right, 100)

    def change(self, chance, lines, swaps):
        at = chance.randrange(len(lines))
        way = chance.randrange(5)
        if way == 0:
            del lines[at]
        elif way == 1:
            lines.insert(at, chance.choice(lines))
        elif way == 2:
            other = chance.randrange(len(lines))
            lines[at], lines[other] = lines[other], lines[at]
        elif way == 3:
            words = lines[at].split(" ")
            words[chance.randrange(len(words))] = chance.choice(swaps)
            lines[at] = " ".join(words)
        else:
            lines[at] += chance.choice((" ", ", ")) + chance.choice(swaps)

    def compare(self, text):
        task = slow.slow_task(text)
        if is_task(task):
            self.assertEqual(task_of(text), task)
            return
        with self.assertRaises(TooMany):
            task_of(text)


class Tasks(Texts):

    def test_unlike_places_have_unlike_things(self):
        deeds = self.right(self.deed("deed d 1 X:k Y:k", "needs p X", "adds p Y"))[0]
        self.assertEqual(deeds, (("d a b", ("p a",), (), ("p b",), (), 1), ("d b a", ("p b",), (), ("p a",), (), 1)))
        self.assertEqual(self.right(self.deed("deed d 1 X:l Y:l"))[0], ())
        names = [deed[0] for deed in self.right(self.deed("deed d 1 Y:k X:l"))[0]]
        self.assertEqual(names, ["d a c", "d b c"])
        names = [deed[0] for deed in self.right("kind k a b c\ndeed d 1 Z:k A:k M:k\n" + TAIL)[0]]
        self.assertEqual(names, ["d " + " ".join(way) for way in permutations("abc")])

    def test_a_thing_of_a_place_may_be_named_too(self):
        deeds = self.right(self.deed("deed d 1 X:k", "needs p a", "adds p X"))[0]
        self.assertEqual(deeds, (("d a", ("p a",), (), ("p a",), (), 1), ("d b", ("p a",), (), ("p b",), (), 1)))

    def test_deeds_are_sorted(self):
        deeds = self.right(self.deed("deed z 3 X:k", "adds p X", "deed e 2"))[0]
        self.assertEqual([deed[0] for deed in deeds], ["e", "z a", "z b"])
        self.assertEqual([deed[5] for deed in deeds], [2, 3, 3])

    def test_atoms_told_twice_count_once(self):
        task = self.right(HEAD + "deed d 1 X:k\nneeds p X, r, p X\nadds r, r\nbegin r, p b, r\nwish p a, p a\n")
        self.assertEqual(task[0][0], ("d a", ("p a", "r"), (), ("r",), (), 1))
        self.assertEqual(task[1:], (("p b", "r"), ("p a",)))
        deeds = self.right(self.deed("deed d 1 X:k", "needs p X, p a", "bars r, r", "strikes r, r"))[0]
        self.assertEqual(deeds[0], ("d a", ("p a",), ("r",), (), ("r",), 1))
        self.assertEqual(deeds[1], ("d b", ("p a", "p b"), ("r",), (), ("r",), 1))

    def test_strikes_that_are_added_are_left_out(self):
        deeds = self.right(self.deed("deed d 1 X:k", "adds p X", "strikes p a, p b, r"))[0]
        self.assertEqual(deeds[0], ("d a", (), (), ("p a",), ("p b", "r"), 1))
        self.assertEqual(deeds[1], ("d b", (), (), ("p b",), ("p a", "r"), 1))

    def test_deeds_that_need_and_bar_a_fact_are_left_out(self):
        deeds = self.right(self.deed("deed d 1 X:k", "needs p X", "bars p a"))[0]
        self.assertEqual(deeds, (("d b", ("p b",), ("p a",), (), (), 1),))
        self.assertEqual(self.right(self.deed("deed d 1 X:k", "needs r, p X", "bars p X"))[0], ())
        self.assertEqual(self.right(self.deed("deed d 1", "needs r", "bars r"))[0], ())
        self.assertEqual(len(self.right(self.deed("deed d 1 X:k Y:k", "needs p X", "bars p Y"))[0]), 2)
        names = [deed[0] for deed in self.right(self.deed("deed d 1 X:k L:l", "needs q X c", "bars q a L"))[0]]
        self.assertEqual(names, ["d b c"])

    def test_facts_of_one_deed_are_sorted(self):
        deeds = self.right(self.deed("deed d 1 X:k L:l", "needs r, q X L, p X", "bars p b, p a, r"))[0]
        self.assertEqual(deeds, ())
        deeds = self.right(self.deed("deed d 1 X:l", "needs r, q b X, p b, q a X, p a"))[0]
        self.assertEqual(deeds[0][1], ("p a", "p b", "q a c", "q b c", "r"))

    def test_long_words(self):
        things = " ".join("abcdefg" + sign for sign in "xyz")
        text = f"kind k {things}\nfact f1234567 k k k\ndeed d1234567 1\nadds f1234567 {things}\n" + TAIL
        self.assertEqual(self.right(text)[0][0][3], ("f1234567 abcdefgx abcdefgy abcdefgz",))

    def too_many(self, text, most):
        with self.assertRaises(TooMany) as caught:
            task_of(text)
        self.assertEqual(caught.exception.most, most)

    def kind_of(self, many):
        return "kind k " + " ".join(f"t{at}" for at in range(many)) + "\n"

    def test_at_most_14_deeds(self):
        self.assertEqual(len(self.right(self.kind_of(14) + "deed d 1 X:k\n" + TAIL)[0]), 14)
        self.too_many(self.kind_of(15) + "deed d 1 X:k\n" + TAIL, 14)
        self.assertEqual(len(self.right(self.kind_of(13) + "deed d 1 X:k\ndeed e 1\n" + TAIL)[0]), 14)
        self.too_many(self.kind_of(14) + "deed d 1 X:k\ndeed e 1\n" + TAIL, 14)
        self.too_many("".join(f"deed d{at} 1\n" for at in range(15)) + TAIL, 14)
        left_out = "fact p k\n" + "deed d 1 X:k\nneeds p X\nbars p t0\n" + TAIL
        self.too_many(self.kind_of(15) + left_out, 10)
        self.assertEqual(len(self.right(self.kind_of(10) + left_out)[0]), 9)

    def test_deeds_left_out_do_not_count(self):
        text = self.kind_of(15) + "fact p k\nfact r\ndeed d 1 X:k\nneeds r, p X\nbars r\n" + TAIL
        self.assertEqual(self.right(text), ((), (), ()))

    def test_at_most_10_facts(self):
        told = ", ".join(f"p t{at}" for at in range(10))
        head = self.kind_of(12) + "fact p k\ndeed d 1\n"
        self.assertEqual(len(self.right(head + f"begin {told}\nwish {told}\n")[1]), 10)
        self.too_many(head + f"begin {told}\nwish p t10\n", 10)
        self.too_many(head + f"begin {told}, p t11\nwish\n", 10)
        self.too_many(head + f"begin\nwish {told}, p t11\n", 10)
        for line in ("needs", "bars", "adds", "strikes"):
            self.right(head + f"{line} p t9\nbegin {told}\nwish\n")
            self.too_many(head + f"{line} p t10\nbegin {told}\nwish\n", 10)
        self.right(head + f"adds p t1\nstrikes p t1\nbegin {told}\nwish\n")

    def test_too_many_deeds_go_ahead_of_too_many_facts(self):
        self.too_many(self.kind_of(15) + "fact p k\ndeed d 1 X:k\nadds p X\n" + TAIL, 14)
        self.too_many(self.kind_of(14) + "fact p k\ndeed d 1 X:k\nadds p X\n" + TAIL, 10)

    def test_a_wrong_line_goes_ahead_of_too_many(self):
        self.wrong(self.kind_of(15) + "deed d 1 X:k\nbegin\nwish x\n", 3)

    def test_very_many_ways_are_answered_quickly(self):
        begun = time.monotonic()
        head = self.kind_of(300) + "fact p k\nfact q k k\n"
        self.too_many(head + "deed d 1 X:k Y:k Z:k\n" + TAIL, 14)
        self.assertEqual(self.right(head + "deed d 1 X:k Y:k Z:k\nneeds p Z\nbars p Z\n" + TAIL)[0], ())
        barred = ", ".join(f"p t{at}" for at in range(300))
        self.assertEqual(self.right(head + f"deed d 1 X:k Y:k Z:k\nneeds p Z\nbars {barred}\n" + TAIL)[0], ())
        self.assertLess(time.monotonic() - begun, 10)


class Samples(Texts):

    def test_samples_to_the_letter(self):
        self.assertEqual(sample("lift"), LIFT)
        self.assertEqual(sample("keys"), KEYS)

    def test_other_values(self):
        for name in ("", "Lift", "lift ", "key", None, 0, 1, True, b"lift", ["lift"], ("lift",), {}, set(), object()):
            with self.assertRaises(BadNumber):
                sample(name)

    def test_tasks_of_the_samples(self):
        for text in (LIFT, KEYS):
            self.assertEqual(task_of(text), slow.slow_task(text))
        deeds, begin, wish = task_of(KEYS)
        self.assertEqual([deed[0] for deed in deeds], ["back", "leave", "take", "unlock", "walk"])
        self.assertEqual(deeds[2], ("take", ("in cell",), ("key",), ("key",), (), 1))
        self.assertEqual((begin, wish), (("in hall",), ("in yard",)))

    def test_the_example_of_the_interface(self):
        task = task_of(sample('lift'))
        told = [task[0][0], task[0][2], task[1], task[2], len(task[0])]
        enter = ('enter ann high', ('at ann high', 'lift high'), (), ('inside ann',), ('at ann high',), 1)
        go = ('go high low', ('lift high',), (), ('lift low',), ('lift high',), 2)
        self.assertEqual(told, [enter, go, ('at ann low', 'lift high'), ('at ann high',), 6])

    def test_the_world_of_the_readme(self):
        text = ("kind room hall cell\nfact in room\ndeed walk 1 X:room Y:room\nneeds in X\nadds in Y\nstrikes in X\n"
                "begin in hall\nwish in cell\n")
        self.assertEqual(first_plan(task_of(text)), ("walk hall cell",))


if __name__ == "__main__":
    unittest.main()
