"""Standings, fewest moves and their papers [10], [11], [12], with the bounds of [3] and what [2] says of lists."""

import unittest
from random import Random

from tests.helper import (
    FAR_TOO_MANY, FORTY_FIGURES, LOOP, RING, THREE_HUNDRED, THREE_HUNDRED_BOTH_WAYS, TOO_MANY, TRIANGLE, ask, chain,
    chance_trains, finer_by_words, marred, moves_by_words, reached, refuse, rows_number, small_trains, standings_of,
    trains_by_words, well_listed, wrong_goals)
from turnline.errors import NoTrain, TooMany
from turnline.runs import walked
from turnline.standings import are_numbers, come_to, is_shut, least
from turnline.trains import turned

# What least tells of the loop for the train that stands before it.
LOOP_NUMBERS = [([0], 0), ([2], 1), ([3], 1), ([1], 2)]


def are_numbers_by_words(line, train, rows):
    """The first half of point [11] word by word, to hold are_numbers against."""
    listed = standings_of(rows)
    if not well_listed(line, train, listed) or (train, 0) not in rows:
        return False
    for standing, number in rows:
        for _, behind in moves_by_words(line, standing):
            if behind not in listed or rows_number(rows, behind) > number + 1:
                return False
    return True


def is_shut_by_words(line, train, standings):
    """The second half of point [11] word by word, to hold is_shut against."""
    if not well_listed(line, train, standings) or train not in standings:
        return False
    return all(behind in standings for standing in standings for _, behind in moves_by_words(line, standing))


class ComeTo(unittest.TestCase):
    def test_no_move(self):
        self.assertEqual(ask(self, come_to, (1, []), [0]), [[0]])
        self.assertEqual(ask(self, come_to, (1, []), [1]), [[1]])
        self.assertEqual(ask(self, come_to, chain(3), [0, 2, 4]), [[0, 2, 4]])
        self.assertEqual(ask(self, come_to, RING, [0, 2, 4, 6, 8, 10]), [[0, 2, 4, 6, 8, 10]])

    def test_by_fewest_moves_then_on_ahead_of_back_then_by_ends(self):
        self.assertEqual(ask(self, come_to, LOOP, [0]), [[0], [2], [3], [1]])
        self.assertEqual(ask(self, come_to, chain(5), [4]), [[4], [6], [2], [8], [0]])
        self.assertEqual(ask(self, come_to, chain(5), [5]), [[5], [3], [7], [1], [9]])
        self.assertEqual(
            ask(self, come_to, RING, [0, 2]), [[0, 2], [2, 4], [10, 0], [4, 6], [8, 10], [6, 8]])
        # Both branches of the switch ahead of what lies behind either; 1's branch first, whatever the joints' order.
        line = (5, [(3, 6), (1, 4), (5, 8), (1, 2)])
        self.assertEqual(ask(self, come_to, line, [0]), [[0], [2], [4], [6], [8]])

    def test_the_standing_ahead_counts_before_the_end(self):
        # 8 and 6 are two moves off; 8 lies behind 2, which is ahead of 4, so it is come to first.
        line = (5, [(1, 2), (1, 4), (3, 8), (5, 6)])
        self.assertEqual(ask(self, come_to, line, [0]), [[0], [2], [4], [8], [6]])

    def test_rounds_of_the_test_on_small_lines(self):
        for line, train in small_trains():
            self.assertEqual(come_to(line, train), standings_of(reached(line, train)), (line, train))

    def test_rounds_of_the_test_on_lines_by_chance(self):
        for line, train in chance_trains(250, 101):
            rows = reached(line, train)
            if len(rows) <= 300:
                self.assertEqual(ask(self, come_to, line, train), standings_of(rows), (line, train))
            else:
                refuse(self, TooMany, come_to, line, train)

    def test_three_hundred_are_told(self):
        for line, train in (THREE_HUNDRED, THREE_HUNDRED_BOTH_WAYS):
            told = ask(self, come_to, line, train)
            self.assertEqual(len(told), 300)
            self.assertEqual(told, standings_of(reached(line, train)))

    def test_more_are_refused(self):
        for many, (line, train) in zip((301, 302, 780), TOO_MANY):
            self.assertEqual(len(reached(line, train)), many)
            refuse(self, TooMany, come_to, line, train)

    def test_fourteen_pieces_and_a_finer_line(self):
        line = (14, [(0, 27)] + chain(14)[1])
        train = [0, 2, 4, 6, 8, 10]
        self.assertEqual(len(ask(self, come_to, line, train)), 14)
        for coarse, short in ((line, train), (RING, [0, 2]), (TRIANGLE, [2, 4])):
            fine, long = finer_by_words(coarse, short)
            self.assertEqual(ask(self, come_to, fine, long), standings_of(reached(fine, long)))

    def test_what_is_done_later_with_line_and_train(self):
        joints, train = [(1, 2), (3, 4)], [0]
        told = come_to((3, joints), train)
        joints.pop()
        train[0] = 2
        self.assertEqual(told, [[0], [2], [4]])
        self.assertEqual(come_to((3, joints), train), [[2], [0]])


class Least(unittest.TestCase):
    def hold_against_the_words(self, line, train, goal):
        """Look at the whole answer; every goal that is handed in is a train of the right length."""
        rows = reached(line, train)
        told = ask(self, least, line, train, goal)
        if goal not in standings_of(rows):
            self.assertEqual(told, ("none", standings_of(rows)))
            self.assertIs(ask(self, is_shut, line, train, told[1]), True)
            return
        kind, run, numbers = told
        self.assertEqual(kind, "run")
        self.assertEqual(walked(line, train, run)[-1], goal)
        self.assertEqual(len(run), rows_number(rows, goal))
        self.assertEqual(standings_of(numbers), standings_of(rows))
        self.assertEqual(rows_number(numbers, goal), len(run))
        self.assertTrue(are_numbers_by_words(line, train, numbers))
        self.assertIs(ask(self, are_numbers, line, train, numbers), True)

    def test_a_goal_that_can_be_come_to(self):
        kind, run, numbers = ask(self, least, LOOP, [0], [1])
        self.assertEqual((kind, numbers), ("run", LOOP_NUMBERS))
        self.assertIn(run, ([("on", 2), ("on", 1)], [("on", 3), ("on", 1)]))
        told = ask(self, least, chain(3), [0], [4])
        self.assertEqual(told, ("run", [("on", 2), ("on", 4)], [([0], 0), ([2], 1), ([4], 2)]))
        told = ask(self, least, chain(4), [4, 6], [0, 2])
        self.assertEqual(told, ("run", [("back", 3), ("back", 1)], [([4, 6], 0), ([2, 4], 1), ([0, 2], 2)]))

    def test_the_train_itself(self):
        self.assertEqual(ask(self, least, (1, []), [0], [0]), ("run", [], [([0], 0)]))
        self.assertEqual(ask(self, least, LOOP, [0], [0]), ("run", [], LOOP_NUMBERS))
        train = [0]
        told = least(LOOP, train, train)
        self.assertEqual(told, ("run", [], LOOP_NUMBERS))
        self.assertIsNot(told[2][0][0], train)

    def test_a_goal_that_can_not_be_come_to(self):
        self.assertEqual(ask(self, least, (1, []), [0], [1]), ("none", [[0]]))
        self.assertEqual(ask(self, least, chain(3), [2], [3]), ("none", [[2], [4], [0]]))
        self.assertEqual(ask(self, least, (3, [(1, 2)]), [2], [4]), ("none", [[2], [0]]))

    def test_every_goal_on_small_lines(self):
        for at, (line, train) in enumerate(small_trains()):
            if at % 13 == 0:
                for goal in trains_by_words(line, len(train)):
                    self.hold_against_the_words(line, train, goal)

    def test_goals_on_lines_by_chance(self):
        for at, (line, train) in enumerate(chance_trains(120, 121)):
            if len(reached(line, train)) <= 300:
                goals = trains_by_words(line, len(train))
                for goal in Random(at).sample(goals, min(6, len(goals))):
                    self.hold_against_the_words(line, train, goal)

    def test_three_hundred_standings(self):
        for line, train in (THREE_HUNDRED, THREE_HUNDRED_BOTH_WAYS):
            last = reached(line, train)[-1][0]
            for goal in (train, last, turned(train)):
                self.hold_against_the_words(line, train, goal)

    def test_too_many_standings(self):
        for line, train in TOO_MANY:
            first = moves_by_words(line, train)[0][1]
            for goal in (train, first, turned(train)):
                refuse(self, TooMany, least, line, train, goal)

    def test_a_goal_that_is_no_train_ahead_of_too_many(self):
        for line, train in ((LOOP, [0]), (TRIANGLE, [2, 4]), THREE_HUNDRED) + TOO_MANY:
            for goal in wrong_goals(line, train):
                refuse(self, NoTrain, least, line, train, goal)

    def test_a_goal_of_another_length_ahead_of_too_many(self):
        for line, train in ((LOOP, [0]), (TRIANGLE, [2, 4]), THREE_HUNDRED) + TOO_MANY:
            for goal in trains_by_words(line, len(train) + 1)[:3] + [train[1:]]:
                refuse(self, NoTrain, least, line, train, goal)
        refuse(self, NoTrain, least, TRIANGLE, [2, 4], [2])
        refuse(self, NoTrain, least, TRIANGLE, [2], [2, 4])

    def test_what_is_done_later_with_line_train_and_goal(self):
        joints, train, goal = [(1, 2), (3, 4)], [0], [4]
        told = least((3, joints), train, goal)
        joints.clear()
        train[0] = goal[0] = 1
        self.assertEqual(told, ("run", [("on", 2), ("on", 4)], [([0], 0), ([2], 1), ([4], 2)]))
        self.assertEqual(least((3, joints), train, goal), ("run", [], [([1], 0)]))


class AreNumbers(unittest.TestCase):
    def judged(self, line, train, rows, told):
        self.assertIs(ask(self, are_numbers, line, train, rows), told, (line, train, rows))

    def test_in_another_order(self):
        for at, (line, train) in enumerate(chance_trains(60, 131)):
            rows = reached(line, train)
            self.judged(line, train, rows[::-1], True)
            Random(at).shuffle(rows)
            self.judged(line, train, rows, True)

    def test_numbers_that_are_less(self):
        self.judged(LOOP, [0], [([0], 0), ([2], 0), ([3], 0), ([1], 0)], True)
        self.judged(LOOP, [0], [([0], 0), ([2], 1), ([3], 1), ([1], 0)], True)
        self.judged(LOOP, [0], [([0], 0), ([2], 0), ([3], 1), ([1], 1)], True)
        self.judged(LOOP, [0], [([0], 0), ([2], -1), ([3], -1), ([1], -2)], True)
        for line, train in chance_trains(60, 132):
            rows = reached(line, train)
            self.judged(line, train, [(standing, 0) for standing, number in rows], True)
            self.judged(line, train, [(standing, number // 2) for standing, number in rows], True)
            self.judged(line, train, [(standing, -number) for standing, number in rows], True)

    def test_a_number_one_more_than_allowed(self):
        self.judged(LOOP, [0], [([0], 0), ([2], 2), ([3], 1), ([1], 2)], False)
        self.judged(LOOP, [0], [([0], 0), ([2], 1), ([3], 1), ([1], 3)], False)
        self.judged(LOOP, [0], [([0], 0), ([2], 0), ([3], 1), ([1], 2)], False)
        self.judged(LOOP, [0], [([0], 0), ([2], -1), ([3], -1), ([1], -3)], False)
        for line, train in chance_trains(60, 133):
            rows = reached(line, train)
            for at in range(len(rows))[:12]:
                more = rows[:at] + [(rows[at][0], rows[at][1] + 1)] + rows[at + 1:]
                self.judged(line, train, more, False)

    def test_the_train_with_another_number_or_not_listed(self):
        for more in (-FORTY_FIGURES, -1, 1, 2, FORTY_FIGURES):
            self.judged(LOOP, [0], [(standing, number + more) for standing, number in LOOP_NUMBERS], False)
            self.judged((1, []), [0], [([0], more)], False)
        self.judged((1, []), [0], [([0], 0)], True)
        self.judged((1, []), [0], [([1], 0)], False)
        self.judged((2, []), [0], [([2], 0), ([3], 0)], False)

    def test_an_empty_list(self):
        for line, train in ((LOOP, [0]), ((1, []), [1]), FAR_TOO_MANY):
            self.judged(line, train, [], False)

    def test_a_row_left_out_or_told_twice(self):
        for at in range(4):
            self.judged(LOOP, [0], LOOP_NUMBERS[:at] + LOOP_NUMBERS[at + 1:], False)
            self.judged(LOOP, [0], LOOP_NUMBERS + [LOOP_NUMBERS[at]], False)
            for number in (0, 1, 2, 3):
                self.judged(LOOP, [0], LOOP_NUMBERS + [(list(LOOP_NUMBERS[at][0]), number)], False)

    def test_standings_that_the_train_can_not_come_to(self):
        line = (4, [(1, 2), (5, 6)])
        own = [([0], 0), ([2], 1)]
        self.judged(line, [0], own, True)
        self.judged(line, [0], own + [([5], 7), ([7], 6)], True)
        self.judged(line, [0], own + [([5], FORTY_FIGURES), ([7], FORTY_FIGURES)], True)
        self.judged(line, [0], own + [([5], 7), ([7], 5)], False)
        self.judged(line, [0], own + [([5], 7)], False)
        self.judged(line, [0], own + [([1], 7), ([3], -FORTY_FIGURES)], False)
        self.judged(line, [0], own + [([1], 7), ([3], 8), ([4], 1), ([6], 0)], True)

    def test_things_that_are_no_trains_of_as_many_pieces(self):
        for line, train in ((LOOP, [0]), ((3, []), [4]), (TRIANGLE, [2, 4]), (RING, [0, 2, 4, 6, 8, 10])):
            rows = reached(line, train)
            self.judged(line, train, rows, True)
            for wrong in wrong_goals(line, train) + trains_by_words(line, len(train) + 1)[:2]:
                self.judged(line, train, rows + [(wrong, 0)], False)
                self.judged(line, train, [(wrong, 1)] + rows, False)
        # Trains of another length that have no move, so that nothing else is wrong with the rows.
        self.judged(chain(2), [0], [([0], 0), ([2], 1), ([0, 2], 0)], False)
        self.judged(chain(2), [0, 2], [([0, 2], 0)], True)
        self.judged((4, [(1, 2)]), [0, 2], [([0, 2], 0), ([4], 0)], False)

    def test_more_than_three_hundred_rows(self):
        for line, train in TOO_MANY:
            rows = reached(line, train)
            self.judged(line, train, rows, True)
            self.judged(line, train, rows[:-1], False)
            self.judged(line, train, rows[:150] + rows[151:], False)
            self.judged(line, train, rows[:-1] + [(rows[-1][0], rows[-1][1] + 1)], False)
            self.judged(line, train, rows + rows[-1:], False)

    def test_every_marred_paper_against_the_words(self):
        chance = Random(134)
        seen = set()
        for line, train in chance_trains(120, 134):
            for _ in range(8):
                rows = marred(chance, line, reached(line, train))
                told = are_numbers_by_words(line, train, rows)
                self.judged(line, train, rows, told)
                seen.add(told)
        self.assertEqual(seen, {True, False})

    def test_looked_at_anew_after_the_rows_were_changed(self):
        rows = [(list(standing), number) for standing, number in LOOP_NUMBERS]
        self.assertIs(are_numbers(LOOP, [0], rows), True)
        rows[3][0][0] = 0
        self.assertIs(are_numbers(LOOP, [0], rows), False)
        rows[3][0][0] = 1
        self.assertIs(are_numbers(LOOP, [0], rows), True)


class IsShut(unittest.TestCase):
    def judged(self, line, train, standings, told):
        self.assertIs(ask(self, is_shut, line, train, standings), told, (line, train, standings))

    def test_what_come_to_told_also_in_another_order(self):
        for at, (line, train) in enumerate(chance_trains(80, 141)):
            if len(reached(line, train)) <= 300:
                standings = come_to(line, train)
                self.judged(line, train, standings, True)
                Random(at).shuffle(standings)
                self.judged(line, train, standings, True)

    def test_a_standing_left_out_or_told_twice(self):
        for line, train in chance_trains(60, 142):
            standings = standings_of(reached(line, train))
            for at in range(len(standings))[:12]:
                self.judged(line, train, standings[:at] + standings[at + 1:], False)
                self.judged(line, train, standings + [list(standings[at])], False)

    def test_an_empty_list(self):
        for line, train in ((LOOP, [0]), ((1, []), [1]), FAR_TOO_MANY):
            self.judged(line, train, [], False)

    def test_the_train_not_among_them(self):
        self.judged((2, []), [0], [[2]], False)
        self.judged((2, []), [0], [[1], [2], [3]], False)
        self.judged((2, []), [0], [[0]], True)
        self.judged((2, []), [0], [[3], [0]], True)

    def test_standings_that_the_train_can_not_come_to(self):
        self.judged(chain(3), [0], [[0], [2], [4], [1], [3], [5]], True)
        self.judged(chain(3), [0], [[0], [2], [4], [1], [3]], False)

    def test_things_that_are_no_trains_of_as_many_pieces(self):
        for line, train in ((LOOP, [0]), ((3, []), [4]), (TRIANGLE, [2, 4]), (RING, [0, 2, 4, 6, 8, 10])):
            standings = standings_of(reached(line, train))
            for wrong in wrong_goals(line, train) + trains_by_words(line, len(train) + 1)[:2]:
                self.judged(line, train, standings + [wrong], False)
                self.judged(line, train, [wrong] + standings, False)
        self.judged(chain(2), [0], [[0], [2], [0, 2]], False)

    def test_more_than_three_hundred_standings(self):
        for line, train in TOO_MANY:
            standings = standings_of(reached(line, train))
            self.judged(line, train, standings, True)
            self.judged(line, train, standings[:-1], False)
            self.judged(line, train, standings[1:], False)
            self.judged(line, train, standings + standings[:1], False)

    def test_every_marred_paper_against_the_words(self):
        chance = Random(143)
        seen = set()
        for line, train in chance_trains(120, 143):
            for _ in range(8):
                standings = standings_of(marred(chance, line, reached(line, train)))
                told = is_shut_by_words(line, train, standings)
                self.judged(line, train, standings, told)
                seen.add(told)
        self.assertEqual(seen, {True, False})


if __name__ == "__main__":
    unittest.main()
