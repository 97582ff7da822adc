"""The desk [22]."""

import unittest
from random import Random

from tests.helper import (
    EXACTLY, FORTY_FIGURES, LONGEST, LOOP, OVER, REFUSALS, RING, THREE_HUNDRED, TOO_MANY, TRIANGLE, chain,
    chance_trains, moves_by_words, reached, small_trains, standings_of, trains_by_words)
from turnline.changing import fewest
from turnline.desk import Desk
from turnline.errors import NoLine, NoMove, NoPiece, NoRow, NoText, NoTrain, TooMany, TurnError
from turnline.groups import longest
from turnline.runs import changes, walked
from turnline.sides import keeps, sides, turn
from turnline.standings import least
from turnline.texts import read_run, show_line, show_run, show_train
from turnline.trains import turned

ALONE = ("round", "moves", "here", "turn", "standings", "longest")
# Each word that has a rest, with rests that are in the right form on every line.
WITH_REST = {
    "line": ("pieces 2\njoint 0> 1<",), "train": ("0<", "0> 7<"), "on": ("0<", "7>"), "back": ("0<", "7>"),
    "least": ("0<", "7< 0>"), "fewest": ("0<", "7< 0>"), "sides": ("0", "7")}
# Rests that tell none.
WRONG_RESTS = {
    "line": (" pieces 2", "pieces 2 ", "pieces 02", "pieces", "2", "joint 0> 1<", "pieces 2\njoint 0> 1", "ok", "0<"),
    "sides": ("0<", "00", "-1", "+0", "0 0", " 0", "0 ", "x", "-", "1" + "0" * 40)}
NO_ENDS = ("0", " 0<", "0< ", "00<", "-1<", "-", "on 0<", "x", "<", "0<\n", "1" + "0" * 40 + "<")
for some in ("train", "least", "fewest"):
    WRONG_RESTS[some] = NO_ENDS + ("0<  1<", "0< 1", "0<\n1<")
for some in ("on", "back"):
    WRONG_RESTS[some] = NO_ENDS + ("0< 1<",)


def desk_with(line=None, train=None):
    """A desk that keeps this line and this train."""
    desk = Desk()
    if line is not None:
        desk.say("line " + show_line(line))
    if train is not None:
        desk.say("train " + show_train(train))
    return desk


def told_or_refused(desk, row):
    try:
        return desk.say(row)
    except TurnError as refusal:
        return type(refusal)


def kept_by(desk):
    """What can be asked of what the desk keeps without changing it."""
    return [told_or_refused(desk, row) for row in ("here", "moves", "sides 0", "sides 1")]


class DeskCase(unittest.TestCase):
    def refused(self, kind, desk, row):
        """Look whether just this refusal is made, twice, and nothing kept was changed."""
        kept = kept_by(desk)
        for _ in range(2):
            with self.assertRaises(ValueError, msg=row) as caught:
                desk.say(row)
            self.assertIsInstance(caught.exception, TurnError)
            taken = [one for one in REFUSALS if isinstance(caught.exception, one)]
            self.assertEqual(taken, [kind], row)
            self.assertEqual(kept_by(desk), kept, row)

    def told(self, desk, row):
        """The answer to a row that changes nothing."""
        kept = kept_by(desk)
        answer = desk.say(row)
        self.assertIsInstance(answer, str)
        self.assertEqual(desk.say(row), answer)
        self.assertEqual(kept_by(desk), kept)
        return answer


def desks():
    """Desks without a line, with a line alone, and with both; told as (has a line, has a train, desk)."""
    yield False, False, desk_with()
    yield True, False, desk_with(TRIANGLE)
    yield True, True, desk_with(TRIANGLE, [2, 4])


class Rows(DeskCase):
    def test_other_words(self):
        for _, _, desk in desks():
            for row in (
                    "", " ", "  ", "\n", "x", "x 0<", "Here", "HERE", "heres", "her", "Line pieces 2", "lines pieces 2",
                    "On 1<", "ok", "none", "pieces 2", "0<", "-", "run", "marking", "here\n", "\nhere", "\there",
                    "walked", "say", "line\npieces 2", "train\n0<", "joint 0> 1<", "on\t1<", "come_to", "groups 1"):
                self.refused(NoRow, desk, row)

    def test_a_rest_where_none_stands(self):
        for _, _, desk in desks():
            for word in ALONE:
                for rest in (" x", " 0<", "  ", " \n", " -", " 0", " here", f" {word}"):
                    self.refused(NoRow, desk, word + rest)

    def test_none_where_one_stands(self):
        for _, _, desk in desks():
            for word in WITH_REST:
                self.refused(NoRow, desk, word)

    def test_a_blank_behind_a_word_and_nothing_more(self):
        for _, _, desk in desks():
            for word in ALONE + tuple(WITH_REST):
                self.refused(NoRow, desk, word + " ")

    def test_a_blank_ahead(self):
        for _, _, desk in desks():
            for word in ALONE:
                self.refused(NoRow, desk, " " + word)
            for word, rests in WITH_REST.items():
                self.refused(NoRow, desk, f" {word} {rests[0]}")

    def test_two_blanks_behind_a_word(self):
        for _, _, desk in desks():
            for word, rests in WITH_REST.items():
                self.refused(NoText, desk, word + "  ")
                for rest in rests:
                    self.refused(NoText, desk, f"{word}  {rest}")


class Order(DeskCase):
    def test_a_rest_that_tells_none_ahead_of_all_else(self):
        for _, _, desk in desks():
            for word, rests in WRONG_RESTS.items():
                for rest in rests:
                    self.refused(NoText, desk, f"{word} {rest}")
        self.assertEqual(set(WRONG_RESTS), set(WITH_REST))

    def test_no_line_kept(self):
        desk = desk_with()
        for word in ALONE:
            self.refused(NoLine, desk, word)
        for word, rests in WITH_REST.items():
            if word != "line":
                for rest in rests:
                    self.refused(NoLine, desk, f"{word} {rest}")
        self.refused(NoLine, desk, f"sides {FORTY_FIGURES}")
        self.refused(NoLine, desk, "train 0< 0<")

    def test_no_train_kept(self):
        for line in (TRIANGLE, LOOP, TOO_MANY[0][0], OVER[0][0]):
            desk = desk_with(line)
            for word in ("round", "moves", "here", "turn", "standings"):
                self.refused(NoTrain, desk, word)
            for word in ("on", "back", "least", "fewest"):
                for rest in WITH_REST[word] + ("1<", f"{FORTY_FIGURES}>"):
                    self.refused(NoTrain, desk, f"{word} {rest}")

    def test_no_train_is_needed(self):
        desk = desk_with(LOOP)
        self.assertEqual(self.told(desk, "longest"), "1 0<")
        self.assertEqual(self.told(desk, "sides 0").split()[0], "run")
        self.refused(NoPiece, desk, "sides 2")
        self.assertEqual(desk.say("train 0<"), "ok")

    def test_a_line_that_is_none(self):
        for _, _, desk in desks():
            for text in (
                    "pieces 0", "pieces 41", f"pieces {FORTY_FIGURES}", "pieces 2\njoint 0> 2<",
                    "pieces 2\njoint 1< 0>", "pieces 2\njoint 0< 0>", "pieces 2\njoint 0> 1<\njoint 0> 1<"):
                self.refused(NoLine, desk, f"line {text}")
            self.refused(NoText, desk, "line pieces 0\njoint 0>")
            self.refused(NoText, desk, "line pieces 41\n")

    def test_a_rest_that_is_no_train_of_the_line(self):
        wrong = ("5<", f"{FORTY_FIGURES}>", "1< 1<", "1< 1>", "0< 3> 4>", "1< 0<", "1< 2< 3<")
        for desk in (desk_with(TRIANGLE), desk_with(TRIANGLE, [2, 4]), desk_with(TRIANGLE, [2])):
            for text in wrong:
                for word in ("train", "least", "fewest"):
                    self.refused(NoTrain, desk, f"{word} {text}")

    def test_a_goal_that_is_none_ahead_of_too_many(self):
        for line, train in TOO_MANY:
            desk = desk_with(line, train)
            goal = show_train(train)
            longer = show_train(trains_by_words(line, len(train) + 1)[0])
            for word in ("least", "fewest"):
                for text in (f"{goal} {goal}", f"{FORTY_FIGURES}<", show_train(train[1:]), longer):
                    self.refused(NoTrain, desk, f"{word} {text}")
                self.refused(TooMany, desk, f"{word} {goal}")
                self.refused(TooMany, desk, f"{word} {show_train(turned(train))}")

    def test_too_many(self):
        for line, train in TOO_MANY:
            desk = desk_with(line, train)
            self.refused(TooMany, desk, "turn")
            self.refused(TooMany, desk, "standings")
        for line, _ in OVER:
            self.refused(TooMany, desk_with(line), "longest")
        self.assertEqual(self.told(desk_with(*THREE_HUNDRED), "standings"), "300")

    def test_no_piece(self):
        for desk in (desk_with(TRIANGLE), desk_with(TRIANGLE, [2, 4])):
            for piece in (5, 6, 10, 40, FORTY_FIGURES):
                self.refused(NoPiece, desk, f"sides {piece}")

    def test_no_move(self):
        desk = desk_with(TRIANGLE, [2, 4])
        for row in ("on 1<", "on 2<", "on 0>", "on 3<", "back 0<", "back 4>", "on 5<", f"back {FORTY_FIGURES}>"):
            self.refused(NoMove, desk, row)


class Answers(DeskCase):
    def test_a_line_is_kept_and_the_train_put_away(self):
        desk = desk_with(LOOP, [0])
        self.assertEqual(desk.say("here"), "0<")
        self.assertEqual(desk.say("line " + show_line(LOOP)), "ok")
        self.refused(NoTrain, desk, "here")
        self.assertEqual(desk.say("train 1<"), "ok")
        self.assertEqual(desk.say("line pieces 1"), "ok")
        self.refused(NoTrain, desk, "here")
        self.refused(NoTrain, desk, "train 1<")
        self.assertEqual(desk.say("train 0>"), "ok")
        self.assertEqual(desk.say("moves"), "-")

    def test_a_refused_line_or_train_changes_nothing(self):
        desk = desk_with(LOOP, [0])
        for row in ("line pieces 0", "line pieces", "train 7<", "train 0", "train 0< 0<", "on 0>", "back 1<", "line"):
            with self.assertRaises(TurnError):
                desk.say(row)
            self.assertEqual(desk.say("here"), "0<")
            self.assertEqual(desk.say("moves"), "on 1< on 1>")

    def test_another_train(self):
        desk = desk_with(TRIANGLE, [2, 4])
        self.assertEqual(desk.say("train 0<"), "ok")
        self.assertEqual(desk.say("here"), "0<")
        self.assertEqual(desk.say("train 0< 1< 2<"), "ok")
        self.assertEqual(desk.say("here"), "0< 1< 2<")

    def test_on_and_back(self):
        desk = desk_with(chain(4), [2, 4])
        self.assertEqual(desk.say("on 3<"), "2< 3<")
        self.assertEqual(desk.say("here"), "2< 3<")
        self.assertEqual(desk.say("back 1>"), "1< 2<")
        self.assertEqual(desk.say("back 0>"), "0< 1<")
        self.refused(NoMove, desk, "back 0>")
        self.assertEqual(desk.say("here"), "0< 1<")

    def test_round(self):
        desk = desk_with(chain(4), [2, 4])
        self.assertEqual(desk.say("round"), "2> 1>")
        self.assertEqual(desk.say("here"), "2> 1>")
        self.assertEqual(desk.say("on 0>"), "1> 0>")
        self.assertEqual(desk.say("round"), "0< 1<")

    def test_moves(self):
        self.assertEqual(self.told(desk_with(chain(3), [2]), "moves"), "on 2< back 0>")
        self.assertEqual(self.told(desk_with((1, []), [0]), "moves"), "-")
        self.assertEqual(self.told(desk_with(TRIANGLE, [2]), "moves"), "on 2< back 0>")

    def test_here(self):
        self.assertEqual(self.told(desk_with(TRIANGLE, [0, 2, 4]), "here"), "0< 1< 2<")

    def test_least_and_fewest(self):
        desk = desk_with(chain(3), [0])
        for word in ("least", "fewest"):
            self.assertEqual(self.told(desk, f"{word} 2<"), "on 1< on 2<")
            self.assertEqual(self.told(desk, f"{word} 0<"), "-")
            self.assertEqual(self.told(desk, f"{word} 0>"), "none")

    def test_fewest_where_it_is_another_run_than_least(self):
        found = 0
        for line, train in chance_trains(200, 221):
            rows = reached(line, train)
            if len(rows) > 60:
                continue
            for goal, number in rows:
                short, steady = least(line, train, goal)[1], fewest(line, train, goal)[1]
                if changes(steady) < changes(short):
                    found += 1
                    desk = desk_with(line, train)
                    self.look_at_both(desk, line, train, goal, number, changes(steady))
                    break
        self.assertGreater(found, 5)

    def look_at_both(self, desk, line, train, goal, moves, turns):
        short = read_run(self.told(desk, "least " + show_train(goal)))
        self.assertEqual((walked(line, train, short)[-1], len(short)), (goal, moves))
        steady = read_run(self.told(desk, "fewest " + show_train(goal)))
        self.assertEqual((walked(line, train, steady)[-1], changes(steady)), (goal, turns))

    def test_turn(self):
        self.assertIn(self.told(desk_with(LOOP, [0]), "turn"), ("on 1< on 0>", "on 1> on 0>"))
        self.assertEqual(self.told(desk_with(LOOP, [0, 2]), "turn"), "none")
        self.assertEqual(self.told(desk_with(RING, [0, 2]), "turn"), "none")

    def test_standings(self):
        self.assertEqual(self.told(desk_with((1, []), [0]), "standings"), "1")
        self.assertEqual(self.told(desk_with(LOOP, [0]), "standings"), "4")
        self.assertEqual(self.told(desk_with(RING, [0, 2]), "standings"), "6")

    def test_sides(self):
        self.assertIn(self.told(desk_with((1, [])), "sides 0"), ("marking 0 1", "marking 1 0"))
        self.assertIn(self.told(desk_with(LOOP), "sides 0"), ("run on 1< on 0>", "run on 1> on 0>"))
        line = (4, [(1, 3)])
        word, *marks = self.told(desk_with(line), "sides 1").split(" ")
        self.assertEqual((word, marks[4:]), ("marking", ["0", "1", "0", "1"]))
        self.assertIs(keeps(line, 1, [int(mark) for mark in marks]), True)

    def test_longest(self):
        for (pieces, train), line in LONGEST:
            text = str(pieces) if train is None else f"{pieces} {show_train(train)}"
            self.assertEqual(self.told(desk_with(line), "longest"), text)
        self.assertEqual(self.told(desk_with((1, [])), "longest"), "0")
        line = EXACTLY[(4, 300)]
        pieces, train = longest(line)
        self.assertEqual(self.told(desk_with(line), "longest"), f"{pieces} {show_train(train)}")

    def test_the_greatest_line(self):
        line = (40, [(2 * piece + 1, 2 * piece + 2) for piece in range(39)] + [(0, end) for end in range(3, 44)])
        self.assertEqual(len(line[1]), 80)
        train = list(range(0, 80, 2))
        desk = desk_with(line, train)
        self.assertEqual(desk.say("here"), show_train(train))
        self.assertEqual(desk.say("moves"), "-")
        self.assertEqual(desk.say("round"), show_train(turned(train)))


class AgainstTheProgram(DeskCase):
    def test_what_the_points_tell(self):
        cases = [case for at, case in enumerate(small_trains()) if at % 37 == 0] + list(chance_trains(60, 222))
        for line, train in cases:
            rows = reached(line, train)
            if len(rows) > 300:
                continue
            desk = desk_with(line, train)
            self.assertEqual(self.told(desk, "here"), show_train(train))
            self.assertEqual(self.told(desk, "moves"), show_run([move for move, _ in moves_by_words(line, train)]))
            self.assertEqual(self.told(desk, "standings"), str(len(rows)))
            self.look_at_run(desk, "turn", turn(line, train))
            for goal in trains_by_words(line, len(train))[::11]:
                self.look_at_run(desk, "least " + show_train(goal), least(line, train, goal))
                self.look_at_run(desk, "fewest " + show_train(goal), fewest(line, train, goal))
            self.look_at_sides(desk, line)

    def look_at_run(self, desk, row, told):
        self.assertEqual(self.told(desk, row), show_run(told[1]) if told[0] == "run" else "none")

    def look_at_sides(self, desk, line):
        for piece in range(line[0]):
            kind, told = sides(line, piece)
            text = show_run(told) if kind == "run" else " ".join(str(mark) for mark in told)
            self.assertEqual(self.told(desk, f"sides {piece}"), f"{kind} {text}")

    def test_a_long_talk(self):
        """Rows by chance, among them refused ones, against a line and a train that the test keeps itself."""
        chance = Random(223)
        for line, train in chance_trains(40, 223):
            desk = desk_with(line, train)
            for _ in range(25):
                train = self.one_row(chance, desk, line, train)
                self.assertEqual(desk.say("here"), show_train(train))

    def one_row(self, chance, desk, line, train):
        moves = moves_by_words(line, train)
        word, end = chance.choice(("on", "back", "round")), chance.randrange(2 * line[0])
        if word == "round":
            self.assertEqual(desk.say("round"), show_train(turned(train)))
            return turned(train)
        if moves and chance.randrange(3):
            (word, end), _ = chance.choice(moves)
        behind = dict(moves).get((word, end))
        row = f"{word} {show_train([end])}"
        if behind is None:
            self.refused(NoMove, desk, row)
            return train
        self.assertEqual(desk.say(row), show_train(behind))
        return behind

    def test_the_goal_of_a_told_run_is_come_to_by_its_rows(self):
        for line, train in list(chance_trains(40, 224)) + [(TRIANGLE, [2, 4])]:
            rows = reached(line, train)
            if len(rows) <= 300:
                goal = standings_of(rows)[-1]
                desk = desk_with(line, train)
                for word, end in read_run(desk.say("least " + show_train(goal))):
                    desk.say(f"{word} {show_train([end])}")
                self.assertEqual(desk.say("here"), show_train(goal))


class TwoDesks(DeskCase):
    def test_they_know_nothing_of_one_another(self):
        one, other = Desk(), Desk()
        one.say("line " + show_line(LOOP))
        self.refused(NoLine, other, "here")
        one.say("train 0<")
        self.refused(NoLine, other, "here")
        other.say("line " + show_line(LOOP))
        self.refused(NoTrain, other, "here")
        other.say("train 0<")
        one.say("on 1<")
        self.assertEqual(other.say("here"), "0<")
        other.say("round")
        self.assertEqual(one.say("here"), "1<")
        other.say("line pieces 1")
        self.assertEqual(one.say("moves"), "on 0> back 0>")
        self.refused(NoLine, Desk(), "here")


if __name__ == "__main__":
    unittest.main()
