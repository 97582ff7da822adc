"""Texts [21], with the bounds of [3] and what [2] says of lists."""

import re
import unittest
from random import Random

from tests.helper import (
    FORTY_FIGURES, LOOP, RING, TRIANGLE, ask, chain, chance_lines, chance_trains, refuse, small_lines, small_trains,
    unlike_pairs)
from turnline.errors import NoLine, NoText
from turnline.finer import finer, finer_train
from turnline.lines import check_line
from turnline.standings import least
from turnline.texts import read_line, read_run, read_train, show_line, show_run, show_train
from turnline.trains import moves_of

NUMBER = "(?:0|[1-9][0-9]{0,39})"
END = f"{NUMBER}[<>]"
MOVE = f"(?:on|back) {END}"
LINE_FORM = re.compile(f"pieces {NUMBER}(?:\njoint {END} {END})*")
TRAIN_FORM = re.compile(f"{END}(?: {END})*")
RUN_FORM = re.compile(f"-|{MOVE}(?: {MOVE})*")

# Texts that tell no end, in whatever text they stand.
WRONG_ENDS = (
    "", "0", "<", ">", "0<<", "0<>", "0><", "<0", ">0", "0=", "0-", "0.", "0,", "0[", "0 <", "00<", "01<", "00>",
    "007>", "+0<", "+1<", "-1<", "-0<", "- 1<", "1_0<", "0x1<", "1e1<", "1.0<", "a<", "0a<", "a0<", "0b<", "on<",
    "\t0<", "1" + "0" * 40 + "<", "1" + "0" * 40 + ">", "0" * 41 + "<", "0" * 40 + "<", "9" * 41 + ">",
    "0" + "9" * 40 + "<", "\u0661<", "\u00b2<", "\uff11>")
# Texts that tell no number.
WRONG_NUMBERS = (
    "", "00", "01", "03", "-1", "+3", "-0", "3.", "3.0", "3,", "x", "0x3", "3_0", "3<", "3>", "1" + "0" * 40, "0" * 41,
    "three", "\u0663", "\u00b3", "3\t", "3\r")


def texts_of_lines():
    yield from (show_line(line) for at, line in enumerate(small_lines()) if at % 97 == 0)
    yield from (show_line(line) for line in chance_lines(30, 211))


def texts_of_trains():
    yield from (show_train(train) for _, train in chance_trains(30, 212))


def texts_of_runs():
    yield "-"
    for line, train in chance_trains(30, 213):
        yield show_run([move for move, _ in moves_of(line, train)])


def spoilt(text):
    """The text with a blank or a line end more or less, at each place."""
    for at in range(len(text) + 1):
        yield text[:at] + " " + text[at:]
        yield text[:at] + "\n" + text[at:]
    for at, sign in enumerate(text):
        if sign in " \n":
            yield text[:at] + text[at + 1:]
            yield text[:at] + ("\n" if sign == " " else " ") + text[at + 1:]
            yield text[:at] + "\t" + text[at + 1:]


def changed(chance, text):
    """The text with one to three signs changed, put in or taken out by chance."""
    signs = list(text)
    for _ in range(chance.randint(1, 3)):
        at = chance.randrange(len(signs) + 1)
        signs[at:at + chance.choice((0, 1, 1))] = chance.choice(
            (["0"], ["1"], ["7"], ["<"], [">"], [" "], ["\n"], ["-"], ["o"], [], []))
    return "".join(signs)


class Show(unittest.TestCase):
    def test_lines(self):
        self.assertEqual(ask(self, show_line, (1, [])), "pieces 1")
        self.assertEqual(ask(self, show_line, (40, [])), "pieces 40")
        self.assertEqual(ask(self, show_line, LOOP), "pieces 2\njoint 0> 1<\njoint 0> 1>")
        self.assertEqual(
            ask(self, show_line, (12, [(5, 22), (0, 3), (1, 23)])),
            "pieces 12\njoint 2> 11<\njoint 0< 1>\njoint 0> 11>")

    def test_trains(self):
        self.assertEqual(ask(self, show_train, [0]), "0<")
        self.assertEqual(ask(self, show_train, [1]), "0>")
        self.assertEqual(ask(self, show_train, [0, 2, 5]), "0< 1< 2>")
        self.assertEqual(ask(self, show_train, [79, 20]), "39> 10<")

    def test_runs(self):
        self.assertEqual(ask(self, show_run, []), "-")
        self.assertEqual(ask(self, show_run, [("on", 2)]), "on 1<")
        self.assertEqual(ask(self, show_run, [("back", 1)]), "back 0>")
        self.assertEqual(ask(self, show_run, [("on", 2), ("back", 21), ("on", 0)]), "on 1< back 10> on 0<")


class ReadWhatWasShown(unittest.TestCase):
    def test_lines(self):
        lines = [line for at, line in enumerate(small_lines()) if at % 7 == 0] + list(chance_lines(60, 214))
        lines += [LOOP, RING, TRIANGLE, chain(40), (40, []), (1, []), (40, unlike_pairs(40)[:80])]
        lines += [(40, unlike_pairs(40)[-80:]), finer(chain(14)), finer(TRIANGLE)]
        for line in lines:
            self.assertEqual(ask(self, read_line, ask(self, show_line, line)), line)

    def test_the_order_of_joints_is_kept(self):
        line = (3, [(3, 4), (0, 5), (1, 2)])
        self.assertEqual(read_line(show_line(line)), line)

    def test_trains(self):
        trains = [train for _, train in small_trains()][::7] + [train for _, train in chance_trains(60, 215)]
        for train in trains + [list(range(0, 80, 2)), finer_train([0, 2, 5])]:
            self.assertEqual(ask(self, read_train, ask(self, show_train, train)), train)

    def test_runs(self):
        self.assertEqual(ask(self, read_run, show_run([])), [])
        for line, train in chance_trains(60, 216):
            run = [move for move, _ in moves_of(line, train)]
            self.assertEqual(ask(self, read_run, ask(self, show_run, run)), run)
        run = least(chain(14), [0], [26])[1]
        self.assertEqual(read_run(show_run(run)), run)
        # A run as long as a text may be, and somewhat longer.
        run = [("on", 2), ("back", 1)] * 120
        self.assertEqual(read_run(show_run(run)), run)


class Read(unittest.TestCase):
    def test_0_and_forty_figures(self):
        many = str(FORTY_FIGURES)
        self.assertEqual(ask(self, read_train, "0<"), [0])
        self.assertEqual(ask(self, read_train, "0> 10< 100>"), [1, 20, 201])
        self.assertEqual(ask(self, read_train, f"{many}< {many}>"), [2 * FORTY_FIGURES, 2 * FORTY_FIGURES + 1])
        self.assertEqual(ask(self, read_train, "1" + "0" * 39 + "<"), [2 * 10 ** 39])
        self.assertEqual(ask(self, read_run, f"on 0< back {many}>"), [("on", 0), ("back", 2 * FORTY_FIGURES + 1)])
        for text in (f"pieces {many}", f"pieces 3\njoint 0> {many}<", "pieces 0", "pieces 0\njoint 0< 0<"):
            refuse(self, NoLine, read_line, text)
        self.assertEqual(read_train(show_train([2 * FORTY_FIGURES + 1])), [2 * FORTY_FIGURES + 1])

    def test_not_held_against_a_line(self):
        self.assertEqual(ask(self, read_train, "3< 3< 3> 99>"), [6, 6, 7, 199])
        self.assertEqual(ask(self, read_run, "on 3< on 3< back 99>"), [("on", 6), ("on", 6), ("back", 199)])

    def test_wrong_ends(self):
        for wrong in WRONG_ENDS:
            for text in (wrong, f"{wrong} 1<", f"1< {wrong}", f"0> {wrong} 2<"):
                refuse(self, NoText, read_train, text)
            for text in (f"on {wrong}", f"back {wrong}", f"on 1< back {wrong}", f"on {wrong} on 1<"):
                refuse(self, NoText, read_run, text)
            for text in (f"joint {wrong} 1<", f"joint 0> {wrong}", f"joint 0> 1<\njoint {wrong} 2<"):
                refuse(self, NoText, read_line, f"pieces 3\n{text}")

    def test_wrong_numbers_of_pieces(self):
        for wrong in WRONG_NUMBERS:
            refuse(self, NoText, read_line, f"pieces {wrong}")
            refuse(self, NoText, read_line, f"pieces {wrong}\njoint 0> 1<")

    def test_an_empty_text_a_blank_and_a_line_end(self):
        for text in ("", " ", "\n", "  ", "\n\n", " \n"):
            for read in (read_line, read_train, read_run):
                refuse(self, NoText, read, text)

    def test_no_pieces_line_first(self):
        for text in (
                "joint 0> 1<", "joint 0> 1<\npieces 2", "\npieces 2", "\npieces 2\njoint 0> 1<", "2", "2\njoint 0> 1<",
                "pieces", "pieces\njoint 0> 1<", "pieces 2 2", "pieces 2 joint 0> 1<", "pieces 2\npieces 2",
                "pieces 2\njoint 0> 1<\npieces 2", "pieces 2\n2", "pieces 0<", "0< 1<", "on 1<", "-"):
            refuse(self, NoText, read_line, text)

    def test_other_words_and_another_letter_case(self):
        for word in ("Pieces", "PIECES", "piece", "piecess", "pieces:", "line", "joint", "many", "p"):
            refuse(self, NoText, read_line, f"{word} 2")
            refuse(self, NoText, read_line, f"{word} 2\njoint 0> 1<")
        for word in ("Joint", "JOINT", "joints", "join", "joint:", "pieces", "on", "j"):
            refuse(self, NoText, read_line, f"pieces 2\n{word} 0> 1<")
            refuse(self, NoText, read_line, f"pieces 2\njoint 0> 1<\n{word} 0> 1>")
        for word in ("On", "ON", "o", "onn", "Back", "BACK", "bac", "go", "-", "joint", "0<", "onback"):
            refuse(self, NoText, read_run, f"{word} 0<")
            refuse(self, NoText, read_run, f"on 1< {word} 0<")
            refuse(self, NoText, read_run, f"{word} 0< back 1<")

    def test_joints_of_another_number_of_ends(self):
        for row in (
                "joint", "joint 0>", "joint 0> 1< 2<", "joint 0>1<", "joint0> 1<", "0> 1<", "joint 0> 1< joint 0> 1>"):
            refuse(self, NoText, read_line, f"pieces 3\n{row}")
            refuse(self, NoText, read_line, f"pieces 3\njoint 0> 1<\n{row}")
            refuse(self, NoText, read_line, f"pieces 3\n{row}\njoint 0> 1<")

    def test_runs_of_another_number_of_words(self):
        for text in (
                "on", "back", "0<", "on 0< back", "on 0< 1<", "on on 0<", "on back 0<", "0< on", "- -", "--", "- on 0<",
                "on 0< -", "-0<", "on -", "on0<", "on 0<back 1<", "none"):
            refuse(self, NoText, read_run, text)

    def test_a_trains_text_is_no_runs_text_and_so_on(self):
        for text in ("0<", "0< 1<", "pieces 2"):
            refuse(self, NoText, read_run, text)
        for text in ("-", "on 1<", "pieces 2", "0<,1<", "[0]", "0, 2"):
            refuse(self, NoText, read_train, text)

    def test_a_blank_or_a_line_end_more_or_less_at_each_place(self):
        for text in ("pieces 12", "pieces 12\njoint 10> 11<", "pieces 2\njoint 0> 1<\njoint 0> 1>"):
            for wrong in spoilt(text):
                refuse(self, NoText, read_line, wrong)
        for text in ("10<", "0< 1<", "10> 11< 0<"):
            for wrong in spoilt(text):
                refuse(self, NoText, read_train, wrong)
        for text in ("-", "on 10<", "back 0>", "on 10< back 11> on 0<"):
            for wrong in spoilt(text):
                refuse(self, NoText, read_run, wrong)

    def test_other_line_ends(self):
        for end in ("\r\n", "\r", "\v", "\f", "\x85", "\u2028", "\\n"):
            refuse(self, NoText, read_line, f"pieces 2{end}joint 0> 1<")
            refuse(self, NoText, read_line, f"pieces 2{end}")

    def hold_against_the_form(self, form, read, show, text):
        if form.fullmatch(text) is None:
            refuse(self, NoText, read, text)
            return False
        try:
            told = read(text)
        except NoLine:
            self.assertIs(read, read_line)
        else:
            self.assertEqual(show(told), text)
        return True

    def test_texts_changed_by_chance(self):
        chance = Random(217)
        for form, read, show, texts in (
                (LINE_FORM, read_line, show_line, texts_of_lines),
                (TRAIN_FORM, read_train, show_train, texts_of_trains),
                (RUN_FORM, read_run, show_run, texts_of_runs)):
            seen = set()
            for text in texts():
                self.assertIsNotNone(form.fullmatch(text))
                for _ in range(30):
                    seen.add(self.hold_against_the_form(form, read, show, changed(chance, text)))
            self.assertEqual(seen, {True, False})


class NoLines(unittest.TestCase):
    def test_joints_that_are_none(self):
        for row in (
                "joint 1< 0>", "joint 2> 0<", "joint 0< 0>", "joint 0> 0<", "joint 0< 0<", "joint 0> 3<", "joint 3< 4<",
                "joint 0< 99>", "joint 2> 3>"):
            refuse(self, NoLine, read_line, f"pieces 3\n{row}")
            refuse(self, NoLine, read_line, f"pieces 3\njoint 0> 1<\n{row}")
        self.assertEqual(ask(self, read_line, "pieces 3\njoint 0> 2>"), (3, [(1, 5)]))

    def test_a_joint_twice(self):
        refuse(self, NoLine, read_line, "pieces 3\njoint 0> 1<\njoint 0> 1<")
        refuse(self, NoLine, read_line, "pieces 3\njoint 0> 1<\njoint 1> 2<\njoint 0> 1<")

    def test_no_pieces_and_too_many(self):
        for many in (0, 41, 42, 100, FORTY_FIGURES):
            refuse(self, NoLine, read_line, f"pieces {many}")
        self.assertEqual(ask(self, read_line, "pieces 40"), (40, []))
        self.assertEqual(ask(self, read_line, "pieces 1"), (1, []))

    def test_eighty_joints_and_more(self):
        pairs = unlike_pairs(10)
        self.assertEqual(ask(self, read_line, show_line((10, pairs[:80]))), (10, pairs[:80]))
        refuse(self, NoLine, read_line, show_line((10, pairs[:81])))
        refuse(self, NoLine, read_line, show_line((10, pairs[:90])))

    def test_what_reads_in_another_form_goes_ahead(self):
        for text in (
                "pieces 0\njoint 0> 01<", "pieces 41\njoint", "pieces 3\njoint 1< 0>\njoint 0> 1", "pieces 0\n",
                "pieces 3\njoint 0< 0>\nJoint 0> 1<", "pieces 3\njoint 0> 1<\njoint 0> 1<\n", "pieces 41 "):
            refuse(self, NoText, read_line, text)

    def test_just_what_check_line_lets_by(self):
        chance = Random(218)
        seen = set()
        for _ in range(400):
            many = chance.randint(0, 4)
            joints = [(chance.randrange(8), chance.randrange(8)) for _ in range(chance.randint(0, 3))]
            line = (many, joints)
            try:
                check_line(line)
            except NoLine:
                refuse(self, NoLine, read_line, show_line(line))
                seen.add(False)
            else:
                self.assertEqual(ask(self, read_line, show_line(line)), line)
                seen.add(True)
        self.assertEqual(seen, {True, False})


if __name__ == "__main__":
    unittest.main()
