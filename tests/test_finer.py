"""Finer lines and trains [20], with what [2] says of lists."""

import unittest

from tests.helper import (
    LOOP, RING, TRIANGLE, ask, chain, chance_lines, chance_trains, finer_by_words, reached, rows_number, small_lines,
    small_trains, standings_of, trains_by_words)
from turnline.changing import are_ways, fewest
from turnline.errors import TooMany
from turnline.finer import finer, finer_train
from turnline.lines import check_line
from turnline.runs import changes, walked
from turnline.sides import keeps, sides, turn
from turnline.standings import are_numbers, come_to, is_shut, least
from turnline.trains import check_train, turned


def finer_run(run):
    """Each move twice, once onto each half."""
    return [(word, half) for word, end in run for half in finer_by_words((end // 2 + 1, []), [end])[1]]


def cases():
    yield from ((line, train) for at, (line, train) in enumerate(small_trains()) if at % 29 == 0)
    yield from chance_trains(60, 201)


class Finer(unittest.TestCase):
    def test_pieces_and_new_joints(self):
        self.assertEqual(ask(self, finer, (1, [])), (2, [(1, 2)]))
        self.assertEqual(ask(self, finer, (3, [])), (6, [(1, 2), (5, 6), (9, 10)]))

    def test_ends_as_they_become(self):
        self.assertEqual(ask(self, finer, (2, [(0, 2)])), (4, [(0, 4), (1, 2), (5, 6)]))
        self.assertEqual(ask(self, finer, (2, [(0, 3)])), (4, [(0, 7), (1, 2), (5, 6)]))
        self.assertEqual(ask(self, finer, (2, [(1, 2)])), (4, [(3, 4), (1, 2), (5, 6)]))
        self.assertEqual(ask(self, finer, (2, [(1, 3)])), (4, [(3, 7), (1, 2), (5, 6)]))

    def test_joints_in_their_order(self):
        line = (3, [(3, 4), (0, 5), (1, 2)])
        self.assertEqual(ask(self, finer, line), (6, [(7, 8), (0, 11), (3, 4), (1, 2), (5, 6), (9, 10)]))

    def test_the_words_and_check_line_on_small_lines_and_lines_by_chance(self):
        lines = [line for at, line in enumerate(small_lines()) if at % 17 == 0] + list(chance_lines(80, 202))
        for line in lines + [LOOP, RING, TRIANGLE, chain(14), (14, [(0, end) for end in range(2, 26)])]:
            told = ask(self, finer, line)
            self.assertEqual(told, finer_by_words(line, [])[0])
            self.assertIsNone(check_line(told))

    def test_what_is_done_later_with_the_line(self):
        joints = [(1, 2)]
        told = finer((2, joints))
        joints[0] = (0, 2)
        self.assertEqual(told, (4, [(3, 4), (1, 2), (5, 6)]))


class FinerTrain(unittest.TestCase):
    def test_both_halves_of_each_piece(self):
        self.assertEqual(ask(self, finer_train, [0]), [0, 2])
        self.assertEqual(ask(self, finer_train, [1]), [3, 1])
        self.assertEqual(ask(self, finer_train, [6]), [12, 14])
        self.assertEqual(ask(self, finer_train, [7]), [15, 13])
        self.assertEqual(ask(self, finer_train, [0, 2, 5]), [0, 2, 4, 6, 11, 9])

    def test_the_words_and_check_train(self):
        for line, train in cases():
            told = ask(self, finer_train, train)
            self.assertEqual(told, finer_by_words(line, train)[1])
            self.assertEqual(len(told), 2 * len(train))
            self.assertIsNone(check_train(finer(line), told))

    def test_turned_round(self):
        for _, train in cases():
            self.assertEqual(finer_train(turned(train)), turned(finer_train(train)))

    def test_six_pieces_of_fourteen(self):
        for train in trains_by_words(chain(14), 6):
            self.assertIsNone(check_train(finer(chain(14)), ask(self, finer_train, train)))

    def test_what_is_done_later_with_the_train(self):
        train = [0, 2]
        told = finer_train(train)
        train.clear()
        self.assertEqual(told, [0, 2, 4, 6])


class OnFinerLines(unittest.TestCase):
    def test_a_run_leads_the_finer_train_to_the_finer_goal(self):
        for line, train in cases():
            for goal, _ in reached(line, train)[:40:7]:
                try:
                    run = least(line, train, goal)[1]
                except TooMany:
                    continue
                doubled = finer_run(run)
                self.assertEqual(len(doubled), 2 * len(run))
                self.assertEqual(walked(finer(line), finer_train(train), doubled)[-1], finer_train(goal))

    def test_least_and_fewest_with_twice_as_many_moves_at_most(self):
        looked_at = 0
        for line, train in cases():
            fine, long = finer(line), finer_train(train)
            rows = reached(line, train)
            if len(rows) > 60 or len(reached(fine, long)) > 300:
                continue
            for goal, number in rows[::9]:
                looked_at += 1
                self.look_at_answers(fine, long, finer_train(goal), 2 * number)
                self.assertLessEqual(
                    changes(fewest(fine, long, finer_train(goal))[1]), changes(fewest(line, train, goal)[1]))
        self.assertGreater(looked_at, 100)

    def look_at_answers(self, line, train, goal, most):
        kind, run, numbers = ask(self, least, line, train, goal)
        self.assertEqual(kind, "run")
        self.assertLessEqual(len(run), most)
        self.assertEqual(walked(line, train, run)[-1], goal)
        self.assertEqual(numbers, reached(line, train))
        self.assertIs(are_numbers(line, train, numbers), True)
        kind, run, ways = ask(self, fewest, line, train, goal)
        self.assertEqual(kind, "run")
        self.assertEqual(walked(line, train, run)[-1], goal)
        self.assertEqual(standings_of(ways), standings_of(numbers))
        self.assertIs(are_ways(line, train, ways), True)

    def test_come_to(self):
        for line, train in cases():
            fine, long = finer(line), finer_train(train)
            rows = reached(fine, long)
            if len(rows) <= 300:
                self.assertEqual(ask(self, come_to, fine, long), standings_of(rows))
                for goal, number in reached(line, train):
                    self.assertLessEqual(rows_number(rows, finer_train(goal)), 2 * number)
            else:
                with self.assertRaises(TooMany):
                    come_to(fine, long)

    def test_none_on_finer_lines(self):
        for line, train in ((chain(14), [0, 2, 4, 6, 8, 10]), (RING, [0, 2]), ((1, []), [0])):
            fine, long = finer(line), finer_train(train)
            for told in (ask(self, turn, fine, long), ask(self, fewest, fine, long, turned(long))):
                self.assertEqual(told, ("none", standings_of(reached(fine, long))))
                self.assertIs(is_shut(fine, long, told[1]), True)

    def test_sides(self):
        for line in list(chance_lines(40, 203)) + [LOOP, RING, TRIANGLE, chain(14)]:
            fine = finer(line)
            for piece in range(line[0]):
                kind = sides(line, piece)[0]
                for half in (2 * piece, 2 * piece + 1):
                    told = ask(self, sides, fine, half)
                    self.assertEqual(told[0], kind)
                    if kind == "run":
                        self.assertEqual(walked(fine, [2 * half], told[1])[-1], [2 * half + 1])
                    else:
                        self.assertIs(keeps(fine, half, told[1]), True)


if __name__ == "__main__":
    unittest.main()
