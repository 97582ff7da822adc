"""Turning round [15], [16], [17], with the bounds of [3] and what [2] says of lists."""

import unittest
from itertools import product

from tests.helper import (
    FORTY_FIGURES, LOOP, RING, THREE_HUNDRED, THREE_HUNDRED_BOTH_WAYS, TOO_MANY, TRIANGLE, ask, chain, chance_lines,
    chance_trains, finer_by_words, reached, refuse, rows_number, small_lines, small_trains, standings_of)
from turnline.errors import NoPiece, TooMany
from turnline.runs import walked
from turnline.sides import keeps, sides, turn
from turnline.standings import are_numbers, is_shut, least

# 0 and 1 are a chain; 2 leads to the loop of 3; 4 stands alone.
PARTED = (5, [(1, 2), (5, 6), (5, 7)])


def pieces_with(line, piece):
    """The pieces that hang together with this one, by mending until nothing is to be mended."""
    pieces = {piece}
    while True:
        more = {end // 2 for joint in line[1] if {joint[0] // 2, joint[1] // 2} & pieces for end in joint}
        if more <= pieces:
            return pieces
        pieces |= more


def keeps_by_words(line, piece, marking):
    """Point [15] word by word, to hold keeps against."""
    ends = range(2 * line[0])
    if len(marking) != len(ends) or any(mark not in (0, 1) for mark in marking):
        return False
    if any(marking[end] == marking[end ^ 1] for end in ends):
        return False
    pieces = pieces_with(line, piece)
    return all(marking[a ^ 1] == marking[b] for a, b in line[1] if a // 2 in pieces)


def all_markings(line):
    """Every marking of the line."""
    for firsts in product((0, 1), repeat=line[0]):
        yield [mark for first in firsts for mark in (first, 1 - first)]


class Keeps(unittest.TestCase):
    def judged(self, line, piece, marking, told):
        self.assertIs(ask(self, keeps, line, piece, marking), told, (line, piece, marking))

    def test_a_marking_that_is_kept(self):
        for piece in (0, 1, 2):
            self.judged(chain(3), piece, [0, 1, 0, 1, 0, 1], True)
            self.judged(chain(3), piece, [1, 0, 1, 0, 1, 0], True)
        self.judged((1, []), 0, [0, 1], True)
        self.judged((1, []), 0, [1, 0], True)
        # Two lesser ends are joined: one leaves the one piece by the lesser end and comes onto the other by it.
        self.judged((2, [(0, 2)]), 0, [0, 1, 1, 0], True)
        self.judged((2, [(0, 2)]), 1, [1, 0, 0, 1], True)
        self.judged(RING, 3, [0, 1] * 6, True)

    def test_a_marking_that_is_not_kept(self):
        for piece in (0, 1, 2):
            self.judged(chain(3), piece, [0, 1, 1, 0, 0, 1], False)
            self.judged(chain(3), piece, [0, 1, 0, 1, 1, 0], False)
            self.judged(chain(3), piece, [1, 0, 0, 1, 0, 1], False)
        self.judged((2, [(0, 2)]), 0, [0, 1, 0, 1], False)
        for marking in all_markings(LOOP):
            self.judged(LOOP, 0, marking, False)
            self.judged(LOOP, 1, marking, False)

    def test_pieces_that_do_not_hang_together(self):
        for rest in all_markings((3, [])):
            for piece in (0, 1):
                self.judged(PARTED, piece, [0, 1, 0, 1] + rest, True)
                self.judged(PARTED, piece, [0, 1, 1, 0] + rest, False)
        for marking in all_markings(PARTED):
            self.judged(PARTED, 2, marking, False)
            self.judged(PARTED, 3, marking, False)
            self.judged(PARTED, 4, marking, True)

    def test_a_list_too_short_or_too_long(self):
        for marking in ([], [0], [0, 1], [0, 1, 0, 1], [0, 1, 0, 1, 0], [0, 1] * 3 + [0], [0, 1] * 4, [0, 1] * 700):
            for piece in (0, 1, 2):
                self.judged(chain(3), piece, marking, False)
                self.judged((3, []), piece, marking, False)

    def test_other_numbers(self):
        for wrong in (2, -1, 3, -2, FORTY_FIGURES, -FORTY_FIGURES):
            for at in range(6):
                for line in (chain(3), (3, [])):
                    marking = [0, 1, 0, 1, 0, 1]
                    marking[at] = wrong
                    self.judged(line, 0, marking, False)
        self.judged((1, []), 0, [1, 2], False)
        self.judged((1, []), 0, [-1, 0], False)
        self.judged((1, []), 0, [-1, 2], False)

    def test_like_marks_at_the_two_ends_of_a_piece(self):
        for mark in (0, 1):
            self.judged((1, []), 0, [mark, mark], False)
            for at in range(3):
                marking = [0, 1, 0, 1, 0, 1]
                marking[2 * at:2 * at + 2] = [mark, mark]
                self.judged(chain(3), 0, marking, False)
            # Also at a piece that does not hang together: such a list is no marking.
            self.judged(PARTED, 0, [0, 1, 0, 1, 0, 1, 0, 1, mark, mark], False)

    def test_every_list_on_small_lines(self):
        for at, line in enumerate(small_lines()):
            if at % 61 and at > 20:
                continue
            for marking in product((0, 1), repeat=2 * line[0]):
                for piece in range(line[0]):
                    told = keeps_by_words(line, piece, list(marking))
                    self.assertIs(keeps(line, piece, list(marking)), told, (line, piece, marking))

    def test_looked_at_anew_after_line_and_marking_were_changed(self):
        joints, marking = [(1, 2)], [0, 1, 0, 1]
        self.judged((2, joints), 0, marking, True)
        marking[2:] = [1, 0]
        self.judged((2, joints), 0, marking, False)
        joints[0] = (1, 3)
        self.judged((2, joints), 0, marking, True)


class Sides(unittest.TestCase):
    def hold_against_the_words(self, line, piece):
        kind, told = ask(self, sides, line, piece)
        rows = reached(line, [2 * piece])
        if [2 * piece + 1] in standings_of(rows):
            self.assertEqual(kind, "run")
            self.assertEqual(walked(line, [2 * piece], told)[-1], [2 * piece + 1])
            self.assertEqual(len(told), rows_number(rows, [2 * piece + 1]))
            return
        self.assertEqual(kind, "marking")
        self.assertTrue(keeps_by_words(line, piece, told), (line, piece, told))
        self.assertIs(ask(self, keeps, line, piece, told), True)
        pieces = pieces_with(line, piece)
        self.assertEqual({told[2 * other] for other in range(line[0]) if other not in pieces} - {0}, set())

    def test_a_piece_that_can_be_turned_round(self):
        kind, run = ask(self, sides, LOOP, 0)
        self.assertEqual(kind, "run")
        self.assertIn(run, ([("on", 2), ("on", 1)], [("on", 3), ("on", 1)]))
        kind, run = ask(self, sides, LOOP, 1)
        self.assertEqual(kind, "run")
        self.assertEqual(walked(LOOP, [2], run)[-1], [3])
        self.assertEqual(len(run), 2)
        for piece in range(5):
            self.hold_against_the_words(TRIANGLE, piece)

    def test_a_piece_that_can_not_be_turned_round(self):
        self.assertIn(ask(self, sides, (1, []), 0), (("marking", [0, 1]), ("marking", [1, 0])))
        for piece in range(3):
            self.assertIn(ask(self, sides, chain(3), piece), (("marking", [0, 1] * 3), ("marking", [1, 0] * 3)))
        for piece in (0, 1):
            told = ask(self, sides, (2, [(0, 2)]), piece)
            self.assertIn(told, (("marking", [0, 1, 1, 0]), ("marking", [1, 0, 0, 1])))
        for piece in range(6):
            self.hold_against_the_words(RING, piece)

    def test_0_for_the_lesser_end_of_each_piece_that_does_not_hang_together(self):
        for piece in (0, 1):
            kind, marking = ask(self, sides, PARTED, piece)
            self.assertEqual((kind, marking[4:]), ("marking", [0, 1] * 3))
        kind, marking = ask(self, sides, PARTED, 4)
        self.assertEqual((kind, marking[:8]), ("marking", [0, 1] * 4))
        # Here those that hang together are marked unlike one another, and the rest is not.
        kind, marking = ask(self, sides, (4, [(3, 5)]), 2)
        self.assertEqual((kind, marking[:2], marking[6:]), ("marking", [0, 1], [0, 1]))
        self.assertNotEqual(marking[2], marking[4])
        self.assertEqual(ask(self, sides, PARTED, 2)[0], "run")
        self.assertEqual(ask(self, sides, PARTED, 3)[0], "run")

    def test_every_piece_of_small_lines_and_of_lines_by_chance(self):
        for at, line in enumerate(small_lines()):
            if at % 29 == 0 or at < 20:
                for piece in range(line[0]):
                    self.hold_against_the_words(line, piece)
        for line in chance_lines(150, 171):
            for piece in range(line[0]):
                self.hold_against_the_words(line, piece)

    def test_a_marking_is_told_just_where_one_is_kept(self):
        for line in list(chance_lines(60, 172)) + [RING, TRIANGLE, PARTED]:
            for piece in range(line[0]):
                kept = any(keeps(line, piece, marking) for marking in all_markings(line))
                self.assertEqual(sides(line, piece)[0], "marking" if kept else "run", (line, piece))

    def test_fourteen_pieces_and_finer_lines(self):
        far_loop = (14, chain(13)[1] + [(25, 26), (25, 27)])
        for line in (chain(14), far_loop, finer_by_words(chain(14), [])[0], finer_by_words(far_loop, [])[0]):
            for piece in (0, 5, line[0] - 1):
                self.hold_against_the_words(line, piece)
        self.assertEqual(len(ask(self, sides, far_loop, 0)[1]), 26)

    def test_no_piece(self):
        for line in ((1, []), LOOP, chain(3), PARTED, RING):
            for piece in (-1, -2, -line[0], -FORTY_FIGURES, line[0], line[0] + 1, 2 * line[0] + 1, FORTY_FIGURES):
                refuse(self, NoPiece, sides, line, piece)

    def test_what_is_done_later_with_the_line(self):
        joints = [(1, 2)]
        told = sides((2, joints), 0)
        kept = ("marking", list(told[1]))
        joints.append((1, 3))
        self.assertEqual(told, kept)
        self.assertEqual(sides((2, joints), 0)[0], "run")
        joints.pop()
        self.assertEqual(sides((2, joints), 0), kept)


class Turn(unittest.TestCase):
    def hold_against_the_words(self, line, train):
        goal = [end ^ 1 for end in train[::-1]]
        rows = reached(line, train)
        told = ask(self, turn, line, train)
        self.assertEqual(told, least(line, train, goal))
        if goal not in standings_of(rows):
            self.assertEqual(told, ("none", standings_of(rows)))
            self.assertTrue(is_shut(line, train, told[1]))
            return
        kind, run, numbers = told
        self.assertEqual(kind, "run")
        self.assertEqual(walked(line, train, run)[-1], goal)
        self.assertEqual(len(run), rows_number(rows, goal))
        self.assertEqual(rows_number(numbers, goal), len(run))
        self.assertTrue(are_numbers(line, train, numbers))

    def test_a_train_that_can_be_turned_round(self):
        kind, run, numbers = ask(self, turn, LOOP, [0])
        self.assertEqual((kind, numbers), ("run", [([0], 0), ([2], 1), ([3], 1), ([1], 2)]))
        self.assertEqual(walked(LOOP, [0], run)[-1], [1])
        # A loop of two pieces at the end of a row, and a train as long as the loop.
        line = (4, [(1, 2), (3, 4), (5, 6), (3, 7)])
        kind, run, numbers = ask(self, turn, line, [0, 2])
        self.assertEqual((kind, len(run)), ("run", 4))
        self.assertEqual(walked(line, [0, 2], run)[-1], [3, 1])
        self.hold_against_the_words(*THREE_HUNDRED_BOTH_WAYS)

    def test_a_train_that_can_not_be_turned_round(self):
        self.assertEqual(ask(self, turn, (1, []), [0]), ("none", [[0]]))
        self.assertEqual(ask(self, turn, chain(3), [2]), ("none", [[2], [4], [0]]))
        # Too long for the loop that turns each piece of it.
        self.assertEqual(ask(self, turn, LOOP, [0, 2]), ("none", [[0, 2]]))
        self.hold_against_the_words(*THREE_HUNDRED)

    def test_more_than_three_hundred_standings(self):
        for line, train in TOO_MANY:
            refuse(self, TooMany, turn, line, train)

    def test_small_lines_and_lines_by_chance(self):
        for at, (line, train) in enumerate(small_trains()):
            if at % 7 == 0:
                self.hold_against_the_words(line, train)
        for line, train in chance_trains(150, 173):
            if len(reached(line, train)) <= 300:
                self.hold_against_the_words(line, train)

    def test_finer_lines(self):
        for line, train in ((LOOP, [0]), (TRIANGLE, [2]), (TRIANGLE, [2, 4]), (RING, [0, 2, 4])):
            self.hold_against_the_words(*finer_by_words(line, train))

    def test_what_is_done_later_with_line_and_train(self):
        joints, train = [(1, 2)], [0]
        told = turn((2, joints), train)
        joints.append((1, 3))
        train[0] = 1
        self.assertEqual(told, ("none", [[0], [2]]))
        self.assertEqual(turn((2, joints), [0])[0], "run")


if __name__ == "__main__":
    unittest.main()
