"""Groups [18], the longest train that can be turned round [19], with the bounds of [3] and what [2] says of lists."""

import unittest

from tests.helper import (
    COMPLETE_FOUR, EXACTLY, LONGEST, LOOP, OVER, RING, TRIANGLE, ask, chain, chance_lines, finer_by_words,
    moves_by_words, refuse, small_lines, trains_by_words)
from turnline.errors import TooMany
from turnline.groups import groups, longest, trains_of
from turnline.standings import come_to, least

LENGTHS = range(1, 7)


def groups_by_words(line, length):
    """The groups of point [18], by giving like marks to trains a move apart until nothing is to be mended."""
    trains = trains_by_words(line, length)
    marks = {tuple(train): at for at, train in enumerate(trains)}
    moves = [(tuple(train), tuple(behind)) for train in trains for _, behind in moves_by_words(line, train)]
    mended = True
    while mended:
        mended = False
        for here, there in moves:
            if marks[here] != marks[there]:
                marks[here] = marks[there] = min(marks[here], marks[there])
                mended = True
    firsts = sorted(set(marks.values()))
    told = []
    for first in firsts:
        standings = [train for train in trains if marks[tuple(train)] == first]
        twin = firsts.index(marks[tuple(end ^ 1 for end in standings[0][::-1])])
        told.append((standings, twin))
    return told


def longest_by_words(line):
    """Point [19] by the words; None where it is to be refused."""
    if any(len(trains_by_words(line, length)) > 300 for length in LENGTHS):
        return None
    for length in reversed(LENGTHS):
        for at, (standings, twin) in enumerate(groups_by_words(line, length)):
            if twin == at:
                return length, standings[0]
    return 0, None


def cases():
    yield from (line for at, line in enumerate(small_lines()) if at % 41 == 0 or at < 20)
    yield from chance_lines(60, 191)
    yield from (LOOP, RING, TRIANGLE, chain(1), chain(7), (14, []))


class TrainsOf(unittest.TestCase):
    def test_in_the_order_of_lists(self):
        self.assertEqual(ask(self, trains_of, chain(3), 1), [[0], [1], [2], [3], [4], [5]])
        self.assertEqual(ask(self, trains_of, chain(3), 2), [[0, 2], [2, 4], [3, 1], [5, 3]])
        self.assertEqual(ask(self, trains_of, chain(3), 3), [[0, 2, 4], [5, 3, 1]])
        self.assertEqual(ask(self, trains_of, LOOP, 2), [[0, 2], [0, 3], [2, 1], [3, 1]])
        # The joints' own order is another one.
        line = (4, [(1, 6), (5, 6), (1, 2), (1, 4)])
        self.assertEqual(
            ask(self, trains_of, line, 2), [[0, 2], [0, 4], [0, 6], [3, 1], [4, 6], [5, 1], [7, 1], [7, 5]])
        self.assertEqual(ask(self, trains_of, line, 3), [[0, 4, 6], [7, 5, 1]])

    def test_a_length_of_which_there_is_no_train(self):
        self.assertEqual(ask(self, trains_of, (1, []), 1), [[0], [1]])
        for length in range(2, 7):
            self.assertEqual(ask(self, trains_of, (1, []), length), [])
            self.assertEqual(ask(self, trains_of, (14, []), length), [])
        for length in (4, 5, 6):
            self.assertEqual(ask(self, trains_of, chain(3), length), [])
        self.assertEqual(ask(self, trains_of, LOOP, 3), [])

    def test_six_pieces(self):
        self.assertEqual(ask(self, trains_of, chain(6), 6), [[0, 2, 4, 6, 8, 10], [11, 9, 7, 5, 3, 1]])
        self.assertEqual(len(ask(self, trains_of, RING, 6)), 12)
        self.assertEqual(len(ask(self, trains_of, chain(14), 6)), 18)

    def test_a_growing_of_the_test(self):
        for line in cases():
            for length in LENGTHS:
                trains = trains_by_words(line, length)
                if len(trains) <= 300:
                    told = ask(self, trains_of, line, length)
                    self.assertEqual(told, trains, (line, length))
                    self.assertEqual(told, sorted(told))
                else:
                    refuse(self, TooMany, trains_of, line, length)

    def test_three_hundred_are_told_and_more_refused(self):
        # With each train stands another one, the same turned round: so two more are the fewest that are more.
        for (length, many), line in EXACTLY.items():
            trains = trains_by_words(line, length)
            self.assertEqual(len(trains), many)
            if many == 300:
                self.assertEqual(ask(self, trains_of, line, length), trains)
            else:
                refuse(self, TooMany, trains_of, line, length)
        self.assertEqual({many for _, many in EXACTLY}, {300, 302})

    def test_only_the_length_that_is_asked_for_counts(self):
        for line, wide in OVER:
            for length in LENGTHS:
                if length in wide:
                    refuse(self, TooMany, trains_of, line, length)
                else:
                    self.assertEqual(ask(self, trains_of, line, length), trains_by_words(line, length))

    def test_finer_lines(self):
        for coarse in (LOOP, TRIANGLE, RING, chain(14)):
            fine = finer_by_words(coarse, [])[0]
            for length in LENGTHS:
                self.assertEqual(ask(self, trains_of, fine, length), trains_by_words(fine, length))

    def test_what_is_done_later_with_the_line(self):
        joints = [(1, 2), (3, 4)]
        told = trains_of((3, joints), 2)
        joints.pop()
        self.assertEqual(told, [[0, 2], [2, 4], [3, 1], [5, 3]])
        self.assertEqual(trains_of((3, joints), 2), [[0, 2], [3, 1]])


class Groups(unittest.TestCase):
    def test_twins(self):
        self.assertEqual(ask(self, groups, (1, []), 1), [([[0]], 1), ([[1]], 0)])
        self.assertEqual(ask(self, groups, chain(2), 1), [([[0], [2]], 1), ([[1], [3]], 0)])
        self.assertEqual(ask(self, groups, LOOP, 1), [([[0], [1], [2], [3]], 0)])
        # Each of these can't move; the twin of the first one is the last one.
        self.assertEqual(ask(self, groups, LOOP, 2), [([[0, 2]], 3), ([[0, 3]], 2), ([[2, 1]], 1), ([[3, 1]], 0)])
        # A piece alone ahead of a loop and behind it a chain: twins of both sorts in one answer.
        line = (5, [(3, 4), (3, 5), (7, 8)])
        self.assertEqual(
            ask(self, groups, line, 1),
            [([[0]], 1), ([[1]], 0), ([[2], [3], [4], [5]], 2), ([[6], [8]], 4), ([[7], [9]], 3)])

    def test_each_group_in_order_though_it_is_come_to_in_another(self):
        line = (3, [(1, 4), (2, 5)])
        self.assertEqual(come_to(line, [0]), [[0], [4], [2]])
        self.assertEqual(ask(self, groups, line, 1), [([[0], [2], [4]], 1), ([[1], [3], [5]], 0)])

    def test_no_trains_no_groups(self):
        for line, length in ((LOOP, 3), (chain(3), 4), (chain(5), 6), ((1, []), 2), ((14, []), 6)):
            self.assertEqual(ask(self, groups, line, length), [])

    def test_marks_of_the_test(self):
        own, other = 0, 0
        for line in cases():
            for length in LENGTHS:
                if len(trains_by_words(line, length)) <= 300:
                    told = ask(self, groups, line, length)
                    self.assertEqual(told, groups_by_words(line, length), (line, length))
                    own += len([1 for at, (_, twin) in enumerate(told) if twin == at])
                    other += len([1 for at, (_, twin) in enumerate(told) if twin != at])
                else:
                    refuse(self, TooMany, groups, line, length)
        self.assertGreater(own, 100)
        self.assertGreater(other, 100)

    def test_three_hundred_are_told_and_more_refused(self):
        for (length, many), line in EXACTLY.items():
            if many == 300:
                self.assertEqual(ask(self, groups, line, length), groups_by_words(line, length))
            else:
                refuse(self, TooMany, groups, line, length)

    def test_only_the_length_that_is_asked_for_counts(self):
        for line, wide in OVER:
            for length in LENGTHS:
                if length in wide:
                    refuse(self, TooMany, groups, line, length)
                else:
                    self.assertEqual(ask(self, groups, line, length), groups_by_words(line, length))

    def test_finer_lines(self):
        for coarse in (LOOP, TRIANGLE, RING):
            fine = finer_by_words(coarse, [])[0]
            for length in LENGTHS:
                self.assertEqual(ask(self, groups, fine, length), groups_by_words(fine, length))

    def test_what_is_done_later_with_the_line(self):
        joints = [(1, 2), (1, 3)]
        told = groups((2, joints), 1)
        joints.pop()
        self.assertEqual(told, [([[0], [1], [2], [3]], 0)])
        self.assertEqual(groups((2, joints), 1), [([[0], [2]], 1), ([[1], [3]], 0)])


class Longest(unittest.TestCase):
    def test_each_length(self):
        for (pieces, train), line in LONGEST:
            self.assertEqual(ask(self, longest, line), (pieces, train))
            self.assertEqual(longest_by_words(line), (pieces, train))
        self.assertEqual([pieces for (pieces, _), _ in LONGEST], [0, 1, 2, 3, 4, 5, 6])

    def test_none(self):
        for line in ((1, []), (14, []), chain(2), chain(14), RING):
            self.assertEqual(ask(self, longest, line), (0, None))

    def test_one_piece(self):
        self.assertEqual(ask(self, longest, LOOP), (1, [0]))
        # The piece 0 can't be turned round, so its groups are not the first such one.
        self.assertEqual(ask(self, longest, (3, [(3, 4), (3, 5)])), (1, [2]))

    def test_six_pieces_and_no_more(self):
        # A loop of seven pieces behind a row of seven: a train of seven could be turned round, too.
        line = (14, chain(14)[1] + [(13, 27)])
        self.assertEqual(ask(self, longest, line), (6, [0, 2, 4, 6, 8, 10]))
        self.assertEqual(least(line, [0, 2, 4, 6, 8, 10, 12], [13, 11, 9, 7, 5, 3, 1])[0], "run")

    def test_the_first_standing_of_the_first_such_group(self):
        # Two loops, each behind a row: the first one's group is told, and of it the standing that comes first.
        line = (4, [(4, 7), (5, 7), (1, 2), (1, 3)])
        self.assertEqual(ask(self, longest, line), (1, [0]))
        self.assertEqual(ask(self, longest, (4, [(4, 7), (5, 7)])), (1, [4]))

    def test_the_words_on_small_lines_and_lines_by_chance(self):
        found = set()
        for line in cases():
            told = longest_by_words(line)
            if told is None:
                refuse(self, TooMany, longest, line)
            else:
                self.assertEqual(ask(self, longest, line), told, line)
                found.add(told[0])
        self.assertLessEqual({0, 1, 2, 3}, found)

    def test_too_many_of_some_length(self):
        for line, wide in OVER:
            for length in LENGTHS:
                self.assertEqual(len(trains_by_words(line, length)) > 300, length in wide)
            refuse(self, TooMany, longest, line)
        # Of one length alone, the longest one; and with no train at all of the longer ones.
        self.assertIn([6], [wide for _, wide in OVER])
        self.assertIn([5], [wide for _, wide in OVER])
        self.assertEqual(OVER[0], (COMPLETE_FOUR, [4]))
        self.assertEqual(trains_of(COMPLETE_FOUR, 5), [])

    def test_three_hundred_are_not_too_many(self):
        line = EXACTLY[(4, 300)]
        self.assertEqual(max(len(trains_by_words(line, length)) for length in LENGTHS), 300)
        self.assertEqual(ask(self, longest, line), longest_by_words(line))

    def test_what_is_done_later_with_the_line(self):
        joints = [(1, 2), (1, 3)]
        told = longest((2, joints))
        joints.pop()
        self.assertEqual(told, (1, [0]))
        self.assertEqual(longest((2, joints)), (0, None))


if __name__ == "__main__":
    unittest.main()
