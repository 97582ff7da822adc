"""Fewest changes and their papers [13], [14], with the bounds of [3] and what [2] says of lists."""

import unittest
from random import Random

from tests.helper import (
    FAR_TOO_MANY, FORTY_FIGURES, LOOP, RING, THREE_HUNDRED, THREE_HUNDRED_BOTH_WAYS, TOO_MANY, TRIANGLE, ask, chain,
    chance_trains, finer_by_words, marred, moves_by_words, reached, refuse, small_trains, standings_of, trains_by_words,
    well_listed, wrong_goals)
from turnline.changing import are_ways, fewest
from turnline.errors import NoTrain, TooMany
from turnline.runs import changes, walked
from turnline.standings import is_shut, least
from turnline.trains import turned

# Ways of the train [2] of a chain of three, and of the train [0] of the loop.
CHAIN_WAYS = [([2], 0, 0), ([4], 0, 1), ([0], 1, 0)]
LOOP_WAYS = [([0], 0, 0), ([2], 0, 1), ([3], 0, 1), ([1], 0, 1)]


def changes_by_words(line, train):
    """How few changes any run to each (standing, last word) has, by mending until nothing is to be mended."""
    costs = {}
    standings = standings_of(reached(line, train))
    mended = True
    while mended:
        mended = False
        for standing in standings:
            for (word, _), behind in moves_by_words(line, standing):
                found = [costs[ahead] + (ahead[1] != word) for ahead in states(standing) if ahead in costs]
                if standing == train:
                    found.append(0)
                state = (tuple(behind), word)
                if found and min(found) < costs.get(state, 10 ** 9):
                    costs[state] = min(found)
                    mended = True
    return costs


def states(standing):
    return [(tuple(standing), "on"), (tuple(standing), "back")]


def fewest_by_words(line, train, goal):
    if goal == train:
        return 0
    costs = changes_by_words(line, train)
    return min(costs[state] for state in states(goal) if state in costs)


def are_ways_by_words(line, train, rows):
    """Point [13] word by word, to hold are_ways against."""
    if not well_listed(line, train, standings_of(rows)) or (train, 0, 0) not in rows:
        return False
    numbers = {tuple(standing): {"on": on, "back": back} for standing, on, back in rows}
    for standing, on, back in rows:
        if on - back not in (-1, 0, 1):
            return False
        for (word, _), behind in moves_by_words(line, standing):
            if tuple(behind) not in numbers:
                return False
            if numbers[tuple(behind)][word] > numbers[tuple(standing)][word]:
                return False
    return True


def ways_of(line, train):
    """Ways with numbers as great as any."""
    rows = []
    costs = changes_by_words(line, train)
    for standing in standings_of(reached(line, train)):
        on, back = [costs.get(state, 10 ** 9) for state in states(standing)]
        on, back = min(on, back + 1), min(back, on + 1)
        rows.append((standing, on, back) if standing != train else (standing, 0, 0))
    return rows


class Fewest(unittest.TestCase):
    def hold_against_the_words(self, line, train, goal):
        """Look at the whole answer; every goal that is handed in is a train of the right length."""
        standings = standings_of(reached(line, train))
        told = ask(self, fewest, line, train, goal)
        if goal not in standings:
            self.assertEqual(told, ("none", standings))
            self.assertIs(ask(self, is_shut, line, train, told[1]), True)
            return
        kind, run, ways = told
        self.assertEqual(kind, "run")
        self.assertEqual(walked(line, train, run)[-1], goal)
        self.assertEqual(changes(run), fewest_by_words(line, train, goal))
        self.assertEqual(standings_of(ways), standings)
        self.assertEqual(changes(run), min(ways[standings.index(goal)][1:]))
        self.assertTrue(are_ways_by_words(line, train, ways))
        self.assertIs(ask(self, are_ways, line, train, ways), True)

    def test_a_goal_that_can_be_come_to(self):
        kind, run, ways = ask(self, fewest, LOOP, [0], [1])
        self.assertEqual(kind, "run")
        self.assertIn(run, ([("on", 2), ("on", 1)], [("on", 3), ("on", 1)]))
        self.assertEqual(standings_of(ways), [[0], [2], [3], [1]])
        kind, run, ways = ask(self, fewest, chain(3), [4], [0])
        self.assertEqual((kind, run), ("run", [("back", 3), ("back", 1)]))

    def test_a_change_that_can_not_be_spared(self):
        # From 1 to 2, which both lie at the switch behind 0, one goes back onto 0 and on again.
        line = (3, [(1, 2), (1, 4)])
        self.assertEqual(ask(self, fewest, line, [2], [4])[1], [("back", 1), ("on", 4)])
        self.assertEqual(ask(self, fewest, line, [3], [5])[1], [("on", 1), ("back", 4)])

    def test_more_moves_but_fewer_changes(self):
        # From 1 over the switch at 0 to 2 in two moves with a change, or round by 3, 4 and 5 without one.
        line = (6, [(1, 2), (1, 4), (3, 6), (7, 8), (9, 10), (4, 11)])
        self.assertEqual(ask(self, least, line, [2], [4])[1], [("back", 1), ("on", 4)])
        told = ask(self, fewest, line, [2], [4])
        self.assertEqual(told[1], [("on", 6), ("on", 8), ("on", 10), ("on", 4)])
        self.assertEqual(min(told[2][standings_of(told[2]).index([4])][1:]), 0)

    def test_the_first_move_is_no_change(self):
        self.assertEqual(changes(ask(self, fewest, chain(3), [2], [4])[1]), 0)
        self.assertEqual(changes(ask(self, fewest, chain(3), [2], [0])[1]), 0)

    def test_the_train_itself(self):
        self.assertEqual(ask(self, fewest, (1, []), [0], [0]), ("run", [], [([0], 0, 0)]))
        for line, train in ((LOOP, [0]), (TRIANGLE, [2, 4]), THREE_HUNDRED):
            kind, run, ways = ask(self, fewest, line, train, train)
            self.assertEqual((kind, changes(run), ways[0]), ("run", 0, (train, 0, 0)))
            self.hold_against_the_words(line, train, train)

    def test_a_goal_that_can_not_be_come_to(self):
        self.assertEqual(ask(self, fewest, (1, []), [0], [1]), ("none", [[0]]))
        self.assertEqual(ask(self, fewest, chain(3), [2], [3]), ("none", [[2], [4], [0]]))
        self.assertEqual(ask(self, fewest, (3, [(1, 2)]), [2], [4]), ("none", [[2], [0]]))

    def test_goals_on_small_lines(self):
        for at, (line, train) in enumerate(small_trains()):
            if at % 17 == 0:
                for goal in trains_by_words(line, len(train)):
                    self.hold_against_the_words(line, train, goal)

    def test_goals_on_lines_by_chance(self):
        for at, (line, train) in enumerate(chance_trains(120, 151)):
            if len(reached(line, train)) <= 300:
                goals = trains_by_words(line, len(train))
                for goal in Random(at).sample(goals, min(5, len(goals))):
                    self.hold_against_the_words(line, train, goal)

    def test_no_run_of_at_most_seven_moves_has_fewer_changes(self):
        for line, train in ((LOOP, [2]), (TRIANGLE, [2, 4]), (TRIANGLE, [7]), ((3, [(1, 2), (1, 4), (2, 4)]), [2])):
            best = {}
            waiting = [([], train)]
            for run, standing in waiting:
                best[tuple(standing)] = min(changes(run), best.get(tuple(standing), 99))
                if len(run) < 7:
                    waiting += [(run + [move], behind) for move, behind in moves_by_words(line, standing)]
            for goal in reached(line, train):
                told = fewest(line, train, goal[0])
                self.assertLessEqual(changes(told[1]), best[tuple(goal[0])])
                if len(told[1]) <= 7:
                    self.assertEqual(changes(told[1]), best[tuple(goal[0])])

    def test_a_finer_line(self):
        for coarse, short in ((RING, [0, 2]), (TRIANGLE, [2, 4]), (LOOP, [0])):
            fine, long = finer_by_words(coarse, short)
            self.hold_against_the_words(fine, long, turned(long))
            self.hold_against_the_words(fine, long, reached(fine, long)[-1][0])

    def test_three_hundred_standings(self):
        for line, train in (THREE_HUNDRED, THREE_HUNDRED_BOTH_WAYS):
            for goal in (reached(line, train)[-1][0], turned(train)):
                self.hold_against_the_words(line, train, goal)

    def test_too_many_standings(self):
        for line, train in TOO_MANY:
            first = moves_by_words(line, train)[0][1]
            for goal in (train, first, turned(train)):
                refuse(self, TooMany, fewest, line, train, goal)

    def test_a_goal_that_is_no_train_ahead_of_too_many(self):
        for line, train in ((LOOP, [0]), (TRIANGLE, [2, 4]), THREE_HUNDRED) + TOO_MANY:
            for goal in wrong_goals(line, train):
                refuse(self, NoTrain, fewest, line, train, goal)

    def test_a_goal_of_another_length_ahead_of_too_many(self):
        for line, train in ((LOOP, [0]), (TRIANGLE, [2, 4]), THREE_HUNDRED) + TOO_MANY:
            for goal in trains_by_words(line, len(train) + 1)[:3] + [train[1:]]:
                refuse(self, NoTrain, fewest, line, train, goal)
        refuse(self, NoTrain, fewest, TRIANGLE, [2, 4], [2])
        refuse(self, NoTrain, fewest, TRIANGLE, [2], [2, 4])

    def test_what_is_done_later_with_line_train_and_goal(self):
        joints, train, goal = [(1, 2)], [0], [2]
        told = fewest((2, joints), train, goal)
        joints.clear()
        train[0] = goal[0] = 1
        self.assertEqual((told[1], standings_of(told[2])), ([("on", 2)], [[0], [2]]))
        self.assertEqual(fewest((2, joints), train, goal), ("run", [], [([1], 0, 0)]))


class AreWays(unittest.TestCase):
    def judged(self, line, train, rows, told):
        self.assertIs(ask(self, are_ways, line, train, rows), told, (line, train, rows))

    def test_ordinary_ways(self):
        self.judged(chain(3), [2], CHAIN_WAYS, True)
        self.judged(LOOP, [0], LOOP_WAYS, True)
        self.judged((1, []), [0], [([0], 0, 0)], True)

    def test_in_another_order(self):
        for at, (line, train) in enumerate(chance_trains(60, 161)):
            rows = ways_of(line, train)
            self.judged(line, train, rows, True)
            self.judged(line, train, rows[::-1], True)
            Random(at).shuffle(rows)
            self.judged(line, train, rows, True)

    def test_numbers_that_are_less(self):
        self.judged(chain(3), [2], [([2], 0, 0), ([4], 0, 0), ([0], 0, 0)], True)
        self.judged(LOOP, [0], [([0], 0, 0), ([2], 0, 0), ([3], 0, 1), ([1], 0, 1)], True)
        for line, train in chance_trains(60, 162):
            rows = ways_of(line, train)
            self.judged(line, train, [(standing, 0, 0) for standing, on, back in rows], True)
            self.judged(line, train, [(standing, on // 2, back // 2) for standing, on, back in rows], True)

    def test_numbers_below_0(self):
        # A move on can be undone by one back, so just the number that no move asks for may fall.
        self.judged(chain(2), [0], [([0], 0, 0), ([2], -1, 0)], True)
        self.judged(chain(2), [0], [([0], 0, 0), ([2], 0, -1)], False)
        self.judged(chain(2), [0], [([0], 0, 0), ([2], -1, -1)], False)

    def test_a_number_one_more_than_allowed(self):
        self.judged(chain(3), [2], [([2], 0, 0), ([4], 1, 1), ([0], 1, 0)], False)
        self.judged(chain(3), [2], [([2], 0, 0), ([4], 0, 1), ([0], 1, 1)], False)
        self.judged(LOOP, [0], [([0], 0, 0), ([2], 0, 1), ([3], 0, 1), ([1], 1, 1)], False)
        for line, train in chance_trains(60, 163):
            rows = ways_of(line, train)
            for at, (standing, on, back) in list(enumerate(rows))[:10]:
                for more in ((standing, on + 1, back), (standing, on, back + 1), (standing, on + 1, back + 1)):
                    self.judged(line, train, rows[:at] + [more] + rows[at + 1:], False)

    def test_two_numbers_that_differ_by_more_than_1(self):
        self.judged(chain(3), [2], [([2], 0, 0), ([4], 0, 2), ([0], 1, 0)], False)
        self.judged(chain(3), [2], [([2], 0, 0), ([4], -1, 1), ([0], 1, 0)], False)
        self.judged(chain(3), [2], [([2], 0, 0), ([4], -2, 0), ([0], 1, 0)], False)
        # A standing that the train can't come to and that has no move, so that nothing else is wrong with it.
        for on, back, told in ((5, 5, True), (5, 6, True), (6, 5, True), (5, 7, False), (7, 5, False), (-1, 1, False),
                               (FORTY_FIGURES, FORTY_FIGURES - 1, True), (FORTY_FIGURES, -FORTY_FIGURES, False)):
            self.judged((2, []), [0], [([0], 0, 0), ([2], on, back)], told)

    def test_each_kind_of_move_asks_for_its_own_number(self):
        line = (4, [(1, 2), (5, 6)])
        own = [([0], 0, 0), ([2], 0, 1)]
        self.judged(line, [0], own, True)
        self.judged(line, [0], own + [([4], 3, 3), ([6], 3, 4)], True)
        self.judged(line, [0], own + [([4], 3, 3), ([6], 2, 3)], True)
        self.judged(line, [0], own + [([4], 3, 3), ([6], 4, 4)], False)
        self.judged(line, [0], own + [([4], 3, 4), ([6], 3, 3)], False)
        self.judged(line, [0], own + [([4], 4, 3), ([6], 3, 3)], True)

    def test_the_train_with_other_numbers_or_not_listed(self):
        for on, back in ((1, 0), (0, 1), (1, 1), (-1, 0), (0, -1), (-1, -1), (FORTY_FIGURES, FORTY_FIGURES)):
            self.judged((1, []), [0], [([0], on, back)], False)
            self.judged((2, []), [0], [([2], 0, 0), ([0], on, back)], False)
        self.judged((1, []), [0], [([1], 0, 0)], False)
        self.judged(chain(3), [2], [(standing, on + 1, back + 1) for standing, on, back in CHAIN_WAYS], False)

    def test_an_empty_list(self):
        for line, train in ((LOOP, [0]), ((1, []), [1]), FAR_TOO_MANY):
            self.judged(line, train, [], False)

    def test_a_row_left_out_or_told_twice(self):
        for line, train, rows in ((LOOP, [0], LOOP_WAYS), (chain(3), [2], CHAIN_WAYS)):
            for at, (standing, on, back) in enumerate(rows):
                self.judged(line, train, rows[:at] + rows[at + 1:], False)
                self.judged(line, train, rows + [(list(standing), on, back)], False)
                self.judged(line, train, rows + [(list(standing), 0, 0)], False)

    def test_things_that_are_no_trains_of_as_many_pieces(self):
        for line, train in ((LOOP, [0]), ((3, []), [4]), (TRIANGLE, [2, 4]), (RING, [0, 2, 4, 6, 8, 10])):
            rows = ways_of(line, train)
            for wrong in wrong_goals(line, train) + trains_by_words(line, len(train) + 1)[:2]:
                self.judged(line, train, rows + [(wrong, 0, 0)], False)
                self.judged(line, train, [(wrong, 0, 0)] + rows, False)
        self.judged(chain(2), [0], [([0], 0, 0), ([2], 0, 1), ([0, 2], 0, 0)], False)
        self.judged((4, [(1, 2)]), [0, 2], [([0, 2], 0, 0), ([4], 0, 0)], False)

    def test_more_than_three_hundred_rows(self):
        for line, train in TOO_MANY:
            rows = ways_of(line, train)
            self.judged(line, train, rows, True)
            self.judged(line, train, rows[:-1], False)
            self.judged(line, train, rows[:150] + rows[151:], False)
            self.judged(line, train, rows + rows[-1:], False)
            self.judged(line, train, rows[:-1] + [(rows[-1][0], rows[-1][1] + 1, rows[-1][2] + 1)], False)

    def test_every_marred_paper_against_the_words(self):
        chance = Random(164)
        seen = set()
        for line, train in chance_trains(120, 164):
            for _ in range(8):
                rows = marred(chance, line, ways_of(line, train))
                told = are_ways_by_words(line, train, rows)
                self.judged(line, train, rows, told)
                seen.add(told)
        self.assertEqual(seen, {True, False})

    def test_what_is_let_by_is_right(self):
        chance = Random(165)
        for line, train in chance_trains(100, 165):
            costs = changes_by_words(line, train)
            for _ in range(6):
                rows = marred(chance, line, ways_of(line, train))
                if are_ways(line, train, rows):
                    for standing, *numbers in rows:
                        for state, number in zip(states(standing), numbers):
                            self.assertLessEqual(number, costs.get(state, number))


if __name__ == "__main__":
    unittest.main()
