"""The promise [4]."""

import unittest
from random import Random

from tests.helper import (
    LOOP, RING, TRIANGLE, chance_lines, chance_trains, marred, reached, rows_number, small_trains, standings_of,
    trains_by_words)
from turnline.changing import are_ways, fewest
from turnline.errors import TooMany
from turnline.groups import groups, longest, trains_of
from turnline.lines import hang_together
from turnline.runs import changes, walked
from turnline.sides import keeps, sides, turn
from turnline.standings import are_numbers, come_to, is_shut, least
from turnline.trains import turned


def asked(line, train, goal):
    """The answers of least and fewest, or none where there are too many standings."""
    try:
        return least(line, train, goal), fewest(line, train, goal)
    except TooMany:
        return ()


def cases():
    yield from ((line, train) for at, (line, train) in enumerate(small_trains()) if at % 19 == 0)
    yield from chance_trains(80, 181)


class Promise(unittest.TestCase):
    def test_just_one_is_told_and_let_by(self):
        for line, train in cases():
            for goal in trains_by_words(line, len(train))[::4]:
                for told in asked(line, train, goal):
                    if told[0] == "none":
                        self.assertIs(is_shut(line, train, told[1]), True)
                        self.assertNotIn(goal, told[1])
                    else:
                        self.assertEqual(told[0], "run")
                        self.assertEqual(walked(line, train, told[1])[-1], goal)

    def test_least_and_fewest_tell_a_run_of_the_same_goals(self):
        for line, train in cases():
            for goal in trains_by_words(line, len(train))[::5]:
                kinds = {told[0] for told in asked(line, train, goal)}
                self.assertLessEqual(len(kinds), 1)

    def test_the_papers_show_that_no_run_is_better(self):
        for line, train in cases():
            for goal in trains_by_words(line, len(train))[::5]:
                answers = asked(line, train, goal)
                if answers and answers[0][0] == "run":
                    (_, short, numbers), (_, steady, ways) = answers
                    self.assertIs(are_numbers(line, train, numbers), True)
                    self.assertEqual(rows_number(numbers, goal), len(short))
                    self.assertIs(are_ways(line, train, ways), True)
                    self.assertEqual(min(*ways[standings_of(ways).index(goal)][1:]), changes(steady))
                    self.assertLessEqual(len(short), len(steady))
                    self.assertLessEqual(changes(steady), changes(short))

    def test_a_piece_has_a_run_or_a_marking(self):
        for line in list(chance_lines(80, 182)) + [LOOP, RING, TRIANGLE]:
            for piece in range(line[0]):
                kind, told = sides(line, piece)
                turning = turn(line, [2 * piece])
                if kind == "run":
                    self.assertEqual(len(told), len(turning[1]))
                    self.assertEqual(turning[0], "run")
                else:
                    self.assertIs(keeps(line, piece, told), True)
                    self.assertEqual(turning[0], "none")

    def test_where_there_is_a_marking_no_train_can_be_turned_round(self):
        for line in list(chance_lines(50, 183)) + [RING]:
            for length in range(1, 7):
                for train in trains_by_words(line, length)[::5]:
                    kind, told = sides(line, train[0] // 2)
                    if kind == "marking":
                        self.assertEqual(len({told[end] for end in train}), 1)
                        self.assertNotIn(turned(train), standings_of(reached(line, train)))

    def test_the_pieces_that_hang_together_have_one_answer(self):
        for line in chance_lines(60, 184):
            for piece in range(line[0]):
                kinds = {sides(line, other)[0] for other in hang_together(line, piece)}
                self.assertEqual(len(kinds), 1)

    def test_each_part_of_a_train_can_be_turned_round_too(self):
        looked_at = 0
        for line in list(chance_lines(60, 185)) + [TRIANGLE]:
            for length in (2, 3, 4):
                for train in trains_by_words(line, length)[::3]:
                    try:
                        told = turn(line, train)
                    except TooMany:
                        continue
                    if told[0] == "run":
                        looked_at += 1
                        self.look_at_parts(line, train, len(told[1]))
        self.assertGreater(looked_at, 100)

    def look_at_parts(self, line, train, moves):
        for start in range(len(train)):
            for stop in range(start + 1, len(train) + 1):
                part = train[start:stop]
                rows = reached(line, part)
                self.assertIn(turned(part), standings_of(rows))
                if len(rows) <= 300:
                    self.assertLessEqual(len(turn(line, part)[1]), moves + len(train) - len(part))

    def groups_by_chance(self):
        """Lines and lengths with their groups, of those that are not too many."""
        for line in list(chance_lines(60, 187)) + [LOOP, RING, TRIANGLE]:
            for length in range(1, 7):
                if len(trains_by_words(line, length)) <= 300:
                    yield line, length, groups(line, length)

    def test_all_standings_of_a_length_are_parted_into_groups(self):
        for line, length, told in self.groups_by_chance():
            standings = [standing for group, _ in told for standing in group]
            self.assertEqual(sorted(standings), trains_of(line, length))
            self.assertEqual([group[0] for group, _ in told], sorted(min(group) for group, _ in told))

    def test_each_group_leads_to_itself_alone(self):
        for line, length, told in self.groups_by_chance():
            for group, _ in told:
                self.assertIs(is_shut(line, group[0], group), True)
                for standing in group[::17]:
                    self.assertEqual(sorted(come_to(line, standing)), group)

    def test_turned_round_a_group_is_a_group(self):
        for line, length, told in self.groups_by_chance():
            for at, (group, twin) in enumerate(told):
                self.assertEqual(sorted(turned(standing) for standing in group), told[twin][0])
                self.assertEqual(told[twin][1], at)
                kind = "run" if twin == at else "none"
                self.assertEqual({turn(line, standing)[0] for standing in group[::17]}, {kind})

    def test_no_shorter_length_is_without_a_train_that_can_be_turned_round(self):
        looked_at = 0
        for line in list(chance_lines(60, 188)) + [LOOP, RING, TRIANGLE]:
            try:
                pieces, train = longest(line)
            except TooMany:
                continue
            looked_at += 1
            for length in range(1, 7):
                own = [group for at, (group, twin) in enumerate(groups(line, length)) if twin == at]
                self.assertEqual(bool(own), length <= pieces)
            markings = [piece for piece in range(line[0]) if sides(line, piece)[0] == "marking"]
            self.assertEqual(len(markings) == line[0], train is None)
        self.assertGreater(looked_at, 30)

    def test_whatever_the_judges_let_by_is_right(self):
        chance = Random(186)
        let_by = 0
        for line, train in chance_trains(100, 186):
            real = reached(line, train)
            for _ in range(6):
                rows = marred(chance, line, real)
                if is_shut(line, train, standings_of(rows)):
                    self.assertTrue(all(standing in standings_of(rows) for standing, _ in real))
                if are_numbers(line, train, rows):
                    let_by += 1
                    self.assertTrue(all(rows_number(rows, standing) <= number for standing, number in real))
        self.assertGreater(let_by, 50)


if __name__ == "__main__":
    unittest.main()
