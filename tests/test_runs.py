"""Runs [9], and what [2] says of lists."""

import unittest
from random import Random

from tests.helper import FORTY_FIGURES, RING, TRIANGLE, ask, chain, chance_trains, moves_by_words, refuse
from turnline.errors import NoMove
from turnline.runs import changes, walked

# On a chain, for a train of one piece at its first one.
THERE_AND_BACK = [("on", 2), ("back", 1)]
ALL_FIVE = [[0], [2], [0], [2], [0]]


def chance_run(line, train, most, seed):
    """A run of at most so many moves, with the trains that stand one behind the other."""
    chance = Random(seed)
    trains, run = [train], []
    for _ in range(most):
        moves = moves_by_words(line, trains[-1])
        if moves:
            move, behind = chance.choice(moves)
            run.append(move)
            trains.append(behind)
    return run, trains


class Walked(unittest.TestCase):
    def refused(self, line, train, run):
        refuse(self, NoMove, walked, line, train, run)

    def test_no_moves(self):
        self.assertEqual(ask(self, walked, TRIANGLE, [2, 4], []), [[2, 4]])
        self.assertEqual(ask(self, walked, (1, []), [1], []), [[1]])

    def test_ordinary_runs(self):
        self.assertEqual(ask(self, walked, TRIANGLE, [2, 4], [("on", 0)]), [[2, 4], [4, 0]])
        self.assertEqual(
            ask(self, walked, TRIANGLE, [0], [("on", 2), ("on", 4), ("back", 3), ("back", 1)]),
            [[0], [2], [4], [2], [0]])
        self.assertEqual(
            ask(self, walked, TRIANGLE, [2, 4], [("on", 8), ("on", 7), ("back", 5), ("on", 7)]),
            [[2, 4], [4, 8], [8, 7], [4, 8], [8, 7]])

    def test_a_standing_that_comes_again_is_told_again(self):
        self.assertEqual(ask(self, walked, chain(2), [0], THERE_AND_BACK * 2), ALL_FIVE)

    def test_1500_moves_there_and_back(self):
        told = ask(self, walked, chain(2), [0], THERE_AND_BACK * 750)
        self.assertEqual(told, [[0], [2]] * 750 + [[0]])
        told = ask(self, walked, chain(40), [2 * piece for piece in range(39)], [("on", 78), ("back", 1)] * 750)
        self.assertEqual(len(told), 1501)
        self.assertEqual(told[-1], told[0])
        self.assertEqual(told[-2], told[1])

    def test_1500_moves_round_a_ring(self):
        told = ask(self, walked, RING, [0, 2], [("on", 2 * (at % 6)) for at in range(2, 1502)])
        self.assertEqual(told, [[2 * (at % 6), 2 * ((at + 1) % 6)] for at in range(1501)])

    def test_moves_by_chance(self):
        for at, (line, train) in enumerate(chance_trains(150, 91)):
            run, trains = chance_run(line, train, 30, at)
            self.assertEqual(ask(self, walked, line, train, run), trains)

    def test_no_move_at_the_first_place_in_the_middle_and_at_the_last_one(self):
        for wrong in (("on", 1), ("on", 6), ("back", 2), ("by", 1), ("on", 7)):
            for at in (0, 1, 2, 299, 300, 748, 749):
                run = THERE_AND_BACK * 375
                run[at] = wrong
                self.refused(chain(4), [0], run)

    def test_a_move_of_a_train_that_stood_earlier_or_stands_later(self):
        self.refused(chain(3), [0], [("on", 2), ("on", 2)])
        self.refused(chain(3), [0], [("on", 4), ("on", 2)])
        self.refused(chain(3), [0], [("on", 2), ("on", 4), ("on", 4)])
        self.refused(chain(3), [0], [("on", 2), ("back", 1), ("back", 1)])

    def test_no_move_is_let_by_behind_one_that_is_none(self):
        self.refused(chain(3), [0], [("on", 4), ("back", 3), ("on", 4)])

    def test_another_word(self):
        for word in ("", "On", "ON", "on ", " on", "Back", "back ", "round", "-"):
            self.refused(chain(2), [0], [(word, 2)])
            self.refused(chain(2), [0], THERE_AND_BACK * 3 + [(word, 2)])
            self.refused(chain(2), [0], THERE_AND_BACK * 3 + [(word, 2)] + THERE_AND_BACK)

    def test_an_end_below_0_beyond_or_of_forty_figures(self):
        for end in (-1, -2, -3, -FORTY_FIGURES, 4, 5, 6, FORTY_FIGURES):
            for word in ("on", "back"):
                self.refused(chain(2), [0], [(word, end)])
                self.refused(chain(2), [0], THERE_AND_BACK * 3 + [(word, end)])
                self.refused(chain(2), [0], THERE_AND_BACK * 3 + [(word, end)] + THERE_AND_BACK)

    def test_onto_a_piece_of_the_train_itself(self):
        self.refused(RING, [0, 2, 4, 6, 8], [("on", 10), ("on", 2)])
        self.refused(RING, [0, 2, 4, 6, 8, 10], [("on", 0)])

    def test_what_is_done_later_with_line_train_and_run(self):
        joints, train, run = [(1, 2)], [0], [("on", 2)]
        told = walked((2, joints), train, run)
        joints.clear()
        train[0] = 3
        run.append(("on", 99))
        self.assertEqual(told, [[0], [2]])
        self.assertEqual(walked((2, [(1, 2)]), [0], [("on", 2)]), [[0], [2]])
        self.refused((2, joints), [0], [("on", 2)])

    def test_the_asker_changes_one_told_train(self):
        for place in range(5):
            told = walked(chain(2), [0], THERE_AND_BACK * 2)
            told[place].append(99)
            self.assertEqual([train for train in told if 99 not in train], ALL_FIVE[:place] + ALL_FIVE[place + 1:])


class Changes(unittest.TestCase):
    def told(self, words):
        return ask(self, changes, [(word, end) for end, word in enumerate(words)])

    def test_no_moves_and_one(self):
        self.assertEqual(self.told([]), 0)
        self.assertEqual(self.told(["on"]), 0)
        self.assertEqual(self.told(["back"]), 0)

    def test_moves_of_one_kind(self):
        for word in ("on", "back"):
            for many in (2, 3, 1500):
                self.assertEqual(self.told([word] * many), 0)

    def test_moves_that_change_each_time(self):
        self.assertEqual(self.told(["on", "back"]), 1)
        self.assertEqual(self.told(["back", "on"]), 1)
        self.assertEqual(self.told(["on", "back", "on"]), 2)
        self.assertEqual(self.told(["on", "back"] * 750), 1499)
        self.assertEqual(self.told(["back", "on"] * 750), 1499)

    def test_some_changes(self):
        self.assertEqual(self.told(["on", "on", "back", "back", "back", "on"]), 2)
        self.assertEqual(self.told(["back"] * 700 + ["on"] * 800), 1)

    def test_like_ends_are_no_like_kind(self):
        self.assertEqual(ask(self, changes, [("on", 2), ("back", 2), ("back", 4), ("on", 4)]), 2)
        self.assertEqual(ask(self, changes, [("on", 2), ("on", 2), ("on", 4)]), 0)

    def test_runs_by_chance(self):
        for at, (line, train) in enumerate(chance_trains(60, 92)):
            run, _ = chance_run(line, train, 25, at)
            signs = "".join(word[0] for word, _ in run)
            self.assertEqual(ask(self, changes, run), signs.count("ob") + signs.count("bo"))


if __name__ == "__main__":
    unittest.main()
