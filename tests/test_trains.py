"""Trains and moves [7], [8], and what [2] says of lists."""

import unittest
from itertools import product

from tests.helper import (
    FORTY_FIGURES, RING, TRIANGLE, ask, chain, is_train, moves_by_words, refuse, small_lines, small_trains)
from turnline.errors import NoMove, NoTrain
from turnline.trains import check_train, done, moves_of, turned


class CheckTrain(unittest.TestCase):
    def let_by(self, line, train):
        self.assertIsNone(ask(self, check_train, line, train))

    def refused(self, line, train):
        refuse(self, NoTrain, check_train, line, train)

    def test_one_piece(self):
        for end in range(10):
            self.let_by(TRIANGLE, [end])
        self.let_by((1, []), [0])
        self.let_by((1, []), [1])
        self.let_by((40, []), [79])

    def test_several_pieces(self):
        self.let_by(TRIANGLE, [0, 2, 4])
        self.let_by(TRIANGLE, [5, 3, 1])
        self.let_by(TRIANGLE, [4, 0, 2])
        self.let_by(TRIANGLE, [2, 4, 0, 6, 9])
        self.let_by(RING, [10, 0, 2])

    def test_forty_pieces(self):
        train = [2 * piece for piece in range(40)]
        self.let_by(chain(40), train)
        self.let_by(chain(40), [end + 1 for end in train[::-1]])
        self.refused(chain(40), train[:20] + [train[20] + 1] + train[21:])
        self.refused(chain(40), train[:20] + train[21:])
        self.refused(chain(40), train + [0])

    def test_no_end_at_all(self):
        self.refused(TRIANGLE, [])
        self.refused((1, []), [])

    def test_an_end_below_0(self):
        for end in (-1, -2, -10, -FORTY_FIGURES):
            self.refused(TRIANGLE, [end])
            self.refused(TRIANGLE, [end, 2])
            self.refused(TRIANGLE, [0, 2, end])

    def test_an_end_beyond(self):
        for end in (10, 11, 12, FORTY_FIGURES):
            self.refused(TRIANGLE, [end])
            self.refused(TRIANGLE, [end, 2])
            self.refused(TRIANGLE, [0, 2, end])
        self.refused((1, []), [2])
        self.refused((40, []), [80])

    def test_two_ends_of_one_piece(self):
        self.refused(TRIANGLE, [0, 1])
        self.refused(TRIANGLE, [1, 0])
        # The loop's piece is joined at both its ends with the end 1, so each end is joined with the one behind it.
        loop = (2, [(1, 2), (1, 3)])
        self.let_by(loop, [0, 2])
        self.let_by(loop, [2, 1])
        self.refused(loop, [0, 2, 1])
        self.refused(loop, [0, 3, 1])

    def test_an_end_twice(self):
        self.refused(TRIANGLE, [0, 0])
        self.refused(TRIANGLE, [0, 2, 4, 0])
        self.refused(RING, [0, 2, 4, 6, 8, 10, 0])
        self.refused(RING, [0, 2, 4, 6, 8, 10] * 7)

    def test_an_end_whose_other_end_is_not_joined_with_the_next_one(self):
        self.refused(TRIANGLE, [0, 4])
        self.refused(TRIANGLE, [2, 0])
        self.refused(TRIANGLE, [0, 3])
        self.refused(TRIANGLE, [0, 2, 8])
        self.refused(TRIANGLE, [6, 2, 4])
        # An end itself is joined with the next one, but not its other end.
        self.refused(TRIANGLE, [1, 2])
        self.refused((2, []), [0, 2])

    def test_two_branches_of_one_switch(self):
        # From 2 to 3 both by the end 1 of the piece 0, which they don't stand on.
        self.refused(TRIANGLE, [3, 6])
        self.refused(TRIANGLE, [7, 2])

    def test_every_list_of_ends_on_small_lines(self):
        for at, line in enumerate(small_lines()):
            if at % 97 and at > 20:
                continue
            for length in (0, 1, 2, 3):
                for ends in product(range(-1, 2 * line[0] + 1), repeat=length):
                    self.hold_against_the_words(line, list(ends))

    def hold_against_the_words(self, line, train):
        try:
            told = check_train(line, train)
        except NoTrain:
            told = "refused"
        self.assertEqual(told, None if is_train(line, train) else "refused", (line, train))

    def test_a_line_and_a_train_changed_later_are_looked_at_anew(self):
        joints = [(1, 2)]
        train = [0, 2]
        self.let_by((3, joints), train)
        train.append(4)
        self.refused((3, joints), train)
        joints.append((3, 4))
        self.let_by((3, joints), train)
        joints.clear()
        self.refused((3, joints), train)


class Turned(unittest.TestCase):
    def test_one_piece(self):
        self.assertEqual(ask(self, turned, [0]), [1])
        self.assertEqual(ask(self, turned, [7]), [6])

    def test_several_pieces(self):
        self.assertEqual(ask(self, turned, [0, 2, 4]), [5, 3, 1])
        self.assertEqual(ask(self, turned, [2, 4, 0, 6, 9]), [8, 7, 1, 5, 3])

    def test_forty_pieces(self):
        train = [2 * piece for piece in range(40)]
        self.assertEqual(ask(self, turned, train), [79 - end for end in train])

    def test_twice_turned_is_the_train_and_each_is_a_train(self):
        for line, train in small_trains():
            self.assertIsNone(check_train(line, turned(train)))
            self.assertEqual(turned(turned(train)), train)

    def test_a_train_changed_later_changes_nothing(self):
        train = [0, 2]
        told = turned(train)
        train.append(4)
        self.assertEqual(told, [3, 1])
        self.assertEqual(turned(train), [5, 3, 1])


class Moves(unittest.TestCase):
    def test_on_ahead_of_back_by_ends_rising(self):
        line = (6, [(1, 8), (1, 4), (1, 3), (0, 11), (0, 6), (0, 9)])
        self.assertEqual(ask(self, moves_of, line, [0]), [
            (("on", 3), [3]), (("on", 4), [4]), (("on", 8), [8]),
            (("back", 6), [7]), (("back", 9), [8]), (("back", 11), [10])])
        self.assertEqual(ask(self, moves_of, line, [1]), [
            (("on", 6), [6]), (("on", 9), [9]), (("on", 11), [11]),
            (("back", 3), [2]), (("back", 4), [5]), (("back", 8), [9])])

    def test_the_train_behind_each_move(self):
        self.assertEqual(ask(self, moves_of, TRIANGLE, [2, 4]), [
            (("on", 0), [4, 0]), (("on", 8), [4, 8]), (("back", 1), [0, 2])])
        self.assertEqual(ask(self, moves_of, TRIANGLE, [6]), [
            (("on", 9), [9]), (("back", 1), [0])])
        self.assertEqual(ask(self, moves_of, chain(5), [2, 4, 6]), [
            (("on", 8), [4, 6, 8]), (("back", 1), [0, 2, 4])])

    def test_no_move_onto_a_piece_of_the_train_itself(self):
        # Front and rear stand before one another's pieces, which are not left ahead of the move.
        self.assertEqual(ask(self, moves_of, RING, [0, 2, 4, 6, 8, 10]), [])
        self.assertEqual(ask(self, moves_of, RING, [11, 9, 7, 5, 3, 1]), [])
        self.assertEqual(ask(self, moves_of, RING, [0, 2, 4, 6, 8]), [
            (("on", 10), [2, 4, 6, 8, 10]), (("back", 11), [10, 0, 2, 4, 6])])
        # The front stands before the middle piece's other end.
        self.assertEqual(ask(self, moves_of, (3, [(1, 2), (3, 4), (3, 5)]), [0, 2, 4]), [])

    def test_no_moves_between_buffers(self):
        self.assertEqual(ask(self, moves_of, (1, []), [0]), [])
        self.assertEqual(ask(self, moves_of, chain(3), [0, 2, 4]), [])

    def test_a_loop(self):
        loop = (2, [(1, 2), (1, 3)])
        self.assertEqual(ask(self, moves_of, loop, [0]), [(("on", 2), [2]), (("on", 3), [3])])
        self.assertEqual(ask(self, moves_of, loop, [1]), [(("back", 2), [3]), (("back", 3), [2])])
        self.assertEqual(ask(self, moves_of, loop, [2]), [(("on", 1), [1]), (("back", 1), [0])])

    def test_thirty_nine_pieces_of_forty(self):
        train = [2 * piece for piece in range(39)]
        self.assertEqual(ask(self, moves_of, chain(40), train), [(("on", 78), train[1:] + [78])])
        self.assertEqual(ask(self, moves_of, chain(40), train[1:] + [78]), [(("back", 1), train)])

    def test_the_words_on_small_lines(self):
        for line, train in small_trains():
            told = moves_of(line, train)
            self.assertEqual(told, moves_by_words(line, train), (line, train))
            for move, behind in told:
                self.assertIsNone(check_train(line, behind))
                self.assertEqual(done(line, train, move), behind)

    def test_turned_round_on_is_back(self):
        for line, train in small_trains():
            there = {"on": "back", "back": "on"}
            told = {(there[word], end): turned(behind) for (word, end), behind in moves_of(line, train)}
            self.assertEqual(told, dict(moves_of(line, turned(train))))

    def test_asked_again_after_line_and_train_were_changed(self):
        joints = [(1, 2)]
        train = [0]
        told = moves_of((3, joints), train)
        joints.append((3, 4))
        train[0] = 2
        self.assertEqual(told, [(("on", 2), [2])])
        self.assertEqual(moves_of((3, joints), train), [(("on", 4), [4]), (("back", 1), [0])])

    def test_the_asker_changes_a_told_train(self):
        train = [2, 4]
        for place in (0, 1, 2):
            told = moves_of(TRIANGLE, train)
            others = [list(behind) for at, (move, behind) in enumerate(told) if at != place]
            told[place][1].append(99)
            self.assertEqual([behind for at, (move, behind) in enumerate(told) if at != place], others)
            self.assertEqual(train, [2, 4])


class Done(unittest.TestCase):
    def refused(self, line, train, move):
        refuse(self, NoMove, done, line, train, move)

    def test_on_and_back(self):
        self.assertEqual(ask(self, done, TRIANGLE, [2, 4], ("on", 0)), [4, 0])
        self.assertEqual(ask(self, done, TRIANGLE, [2, 4], ("on", 8)), [4, 8])
        self.assertEqual(ask(self, done, TRIANGLE, [2, 4], ("back", 1)), [0, 2])
        self.assertEqual(ask(self, done, TRIANGLE, [0], ("on", 6)), [6])
        self.assertEqual(ask(self, done, TRIANGLE, [0], ("back", 5)), [4])

    def test_no_moves_of_this_train(self):
        # The right end with the wrong word, the moved end's other end, a piece that lies elsewhere.
        for move in (("back", 0), ("back", 8), ("on", 1), ("on", 9), ("on", 5), ("back", 7), ("on", 6), ("back", 6)):
            self.refused(TRIANGLE, [2, 4], move)

    def test_onto_a_piece_of_the_train_itself(self):
        train = [0, 2, 4, 6, 8, 10]
        for end in range(12):
            self.refused(RING, train, ("on", end))
            self.refused(RING, train, ("back", end))

    def test_no_moves_between_buffers(self):
        for end in (0, 1):
            self.refused((1, []), [0], ("on", end))
            self.refused((1, []), [0], ("back", end))

    def test_another_word(self):
        for word in ("", "On", "ON", "on ", " on", "o", "onback", "Back", "back ", "round", "forth", "-"):
            for end in (0, 1, 8):
                self.refused(TRIANGLE, [2, 4], (word, end))

    def test_an_end_below_0_or_beyond(self):
        for end in (-1, -2, -9, -FORTY_FIGURES, 10, 11, FORTY_FIGURES):
            self.refused(TRIANGLE, [2, 4], ("on", end))
            self.refused(TRIANGLE, [2, 4], ("back", end))

    def test_every_move_on_small_lines(self):
        for line, train in small_trains():
            moves = dict(moves_by_words(line, train))
            for move in product(("on", "back", "by"), range(-1, 2 * line[0] + 1)):
                try:
                    told = done(line, train, move)
                except NoMove:
                    told = None
                self.assertEqual(told, moves.get(move), (line, train, move))

    def test_a_move_can_be_undone(self):
        for line, train in small_trains():
            for (word, end), behind in moves_of(line, train):
                undo = ("back", train[0] ^ 1) if word == "on" else ("on", train[-1])
                self.assertEqual(done(line, behind, undo), train)

    def test_asked_again_after_line_and_train_were_changed(self):
        joints = [(1, 2), (3, 4)]
        train = [0]
        told = done((3, joints), train, ("on", 2))
        train.insert(0, 5)
        joints.clear()
        self.assertEqual(told, [2])
        self.refused((3, joints), [0], ("on", 2))


if __name__ == "__main__":
    unittest.main()
