"""Lines [5], [6], with the bounds of [3] and what [2] says of lists."""

import unittest
from itertools import product

from tests.helper import FORTY_FIGURES, ask, chain, refuse, small_lines, unlike_pairs
from turnline.errors import NoLine
from turnline.lines import check_line, hang_together, joined, other_end

# The piece 0 ends at a buffer and leads to a switch onto 1 and 2; 3 is a loop's piece, both ends at 1's far end;
# 4 stands alone.
YARD = (5, [(3, 7), (1, 2), (3, 6), (1, 4)])


def closure(line):
    """Which pieces lead to which, by Warshall's way, to hold hang_together against."""
    many, joints = line
    leads = [[a == b for b in range(many)] for a in range(many)]
    for a, b in joints:
        leads[a // 2][b // 2] = leads[b // 2][a // 2] = True
    for by, a, b in product(range(many), repeat=3):
        if leads[a][by] and leads[by][b]:
            leads[a][b] = True
    return [[b for b in range(many) if leads[a][b]] for a in range(many)]


class CheckLine(unittest.TestCase):
    def let_by(self, line):
        self.assertIsNone(ask(self, check_line, line))

    def refused(self, line):
        refuse(self, NoLine, check_line, line)

    def test_ordinary_lines(self):
        self.let_by(YARD)
        self.let_by((2, [(0, 2), (0, 3), (1, 2), (1, 3)]))
        self.let_by(chain(7))

    def test_every_small_line(self):
        for line in small_lines():
            self.assertIsNone(check_line(line))

    def test_one_piece_and_forty(self):
        self.let_by((1, []))
        self.let_by((40, []))
        self.let_by(chain(40))
        self.let_by((40, [(0, 79)]))

    def test_no_piece_or_fewer(self):
        for many in (0, -1, -40, -FORTY_FIGURES):
            self.refused((many, []))
        self.refused((0, [(0, 2)]))

    def test_more_than_forty_pieces(self):
        for many in (41, 42, 80, FORTY_FIGURES):
            self.refused((many, []))
            self.refused((many, [(0, 2)]))

    def test_eighty_joints_and_eighty_one(self):
        for many in (8, 40):
            pairs = unlike_pairs(many)
            self.let_by((many, pairs[:79]))
            self.let_by((many, pairs[:80]))
            self.let_by((many, pairs[-80:][::-1]))
            self.refused((many, pairs[:81]))
            self.refused((many, pairs[:82]))

    def test_joints_in_any_order(self):
        many, joints = chain(12)
        self.let_by((many, joints[::-1]))
        self.let_by((many, joints[5:] + joints[:5]))

    def test_greater_end_first(self):
        self.refused((2, [(2, 1)]))
        self.refused((2, [(1, 2), (3, 0)]))
        self.refused((40, [(79, 0)]))

    def test_a_joint_twice(self):
        self.refused((2, [(1, 2), (1, 2)]))
        self.refused((3, [(1, 2), (3, 4), (0, 5), (1, 2)]))
        self.refused((3, [(0, 5), (1, 2), (1, 2)]))

    def test_a_joint_twice_the_other_way_about(self):
        self.refused((2, [(1, 2), (2, 1)]))

    def test_a_joint_of_one_piece(self):
        for piece in (0, 1, 2):
            self.refused((3, [(2 * piece, 2 * piece + 1)]))
            self.refused((3, [(2 * piece, 2 * piece)]))
            self.refused((3, [(2 * piece + 1, 2 * piece + 1)]))
        self.refused((3, [(1, 2), (4, 5)]))

    def test_ends_of_two_pieces_side_by_side_are_a_joint(self):
        self.let_by((3, [(1, 2), (3, 4)]))

    def test_an_end_below_0(self):
        for end in (-1, -2, -4, -FORTY_FIGURES):
            self.refused((3, [(end, 2)]))
            self.refused((3, [(1, 2), (end, 5)]))
        self.refused((3, [(-4, -2)]))

    def test_an_end_beyond_the_last_piece(self):
        for end in (6, 7, 8, FORTY_FIGURES):
            self.refused((3, [(0, end)]))
            self.refused((3, [(1, 2), (3, end)]))
        self.refused((3, [(6, 8)]))
        self.refused((1, [(0, 2)]))
        self.refused((40, [(0, 80)]))
        self.refused((3, [(FORTY_FIGURES - 9, FORTY_FIGURES)]))
        self.refused((3, [(-FORTY_FIGURES, FORTY_FIGURES)]))

    def test_a_list_changed_later_is_looked_at_anew(self):
        joints = [(1, 2)]
        line = (2, joints)
        self.let_by(line)
        joints.append((1, 2))
        self.refused(line)
        joints.pop()
        self.let_by(line)


class Ends(unittest.TestCase):
    def test_other_end(self):
        for piece in range(40):
            self.assertEqual(other_end(2 * piece), 2 * piece + 1)
            self.assertEqual(other_end(2 * piece + 1), 2 * piece)


class Joined(unittest.TestCase):
    def test_a_buffer(self):
        for end in (0, 5, 8, 9):
            self.assertEqual(ask(self, joined, YARD, end), [])

    def test_a_switch(self):
        self.assertEqual(ask(self, joined, YARD, 1), [2, 4])
        self.assertEqual(ask(self, joined, YARD, 2), [1])
        self.assertEqual(ask(self, joined, YARD, 4), [1])

    def test_a_loop(self):
        self.assertEqual(ask(self, joined, YARD, 3), [6, 7])
        self.assertEqual(ask(self, joined, YARD, 6), [3])
        self.assertEqual(ask(self, joined, YARD, 7), [3])

    def test_rising_whether_the_end_is_the_lesser_or_the_greater_one(self):
        line = (4, [(4, 7), (2, 4), (4, 6), (0, 4), (1, 4)])
        self.assertEqual(ask(self, joined, line, 4), [0, 1, 2, 6, 7])
        self.assertEqual(ask(self, joined, line, 5), [])

    def test_just_the_ends_in_a_joint_on_every_small_line(self):
        for line in small_lines():
            for end in range(2 * line[0]):
                by_pairs = [e for e in range(2 * line[0]) if (e, end) in line[1] or (end, e) in line[1]]
                self.assertEqual(joined(line, end), by_pairs)

    def test_asked_again_after_the_joints_were_changed(self):
        joints = [(1, 2)]
        line = (3, joints)
        told = joined(line, 1)
        joints.append((1, 4))
        self.assertEqual(told, [2])
        self.assertEqual(joined(line, 1), [2, 4])
        joints.clear()
        self.assertEqual(joined(line, 1), [])


class HangTogether(unittest.TestCase):
    def test_the_yard(self):
        for piece in (0, 1, 2, 3):
            self.assertEqual(ask(self, hang_together, YARD, piece), [0, 1, 2, 3])
        self.assertEqual(ask(self, hang_together, YARD, 4), [4])

    def test_from_any_end_to_any_end(self):
        # No train goes from 0 to 2 here: both are joined with the same end of 1.
        line = (3, [(0, 2), (2, 5)])
        for piece in (0, 1, 2):
            self.assertEqual(ask(self, hang_together, line, piece), [0, 1, 2])

    def test_pieces_that_do_not_hang_together(self):
        line = (6, [(0, 10), (5, 6), (7, 9)])
        self.assertEqual(ask(self, hang_together, line, 0), [0, 5])
        self.assertEqual(ask(self, hang_together, line, 5), [0, 5])
        self.assertEqual(ask(self, hang_together, line, 1), [1])
        self.assertEqual(ask(self, hang_together, line, 3), [2, 3, 4])

    def test_one_piece_and_forty(self):
        self.assertEqual(ask(self, hang_together, (1, []), 0), [0])
        for piece in (0, 17, 39):
            self.assertEqual(ask(self, hang_together, chain(40), piece), list(range(40)))
            self.assertEqual(ask(self, hang_together, (40, []), piece), [piece])

    def test_rising_on_a_way_that_leads_to_and_fro(self):
        line = (12, [(0, 20), (3, 21), (2, 18), (4, 19)])
        for piece in (0, 1, 2, 9, 10):
            self.assertEqual(ask(self, hang_together, line, piece), [0, 1, 2, 9, 10])

    def test_every_small_line(self):
        for line in small_lines():
            self.assertEqual([hang_together(line, piece) for piece in range(line[0])], closure(line))

    def test_asked_again_after_the_joints_were_changed(self):
        joints = [(1, 2)]
        line = (3, joints)
        told = hang_together(line, 0)
        joints.append((3, 4))
        self.assertEqual(told, [0, 1])
        self.assertEqual(hang_together(line, 0), [0, 1, 2])
        joints.clear()
        self.assertEqual(hang_together(line, 0), [0])


if __name__ == "__main__":
    unittest.main()
