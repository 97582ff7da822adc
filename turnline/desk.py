"""The desk: it keeps a line and a train, and answers rows of text."""

from turnline.changing import fewest
from turnline.errors import NoLine, NoRow, NoTrain
from turnline.groups import longest
from turnline.sides import sides, turn
from turnline.standings import come_to, least
from turnline.texts import read_end, read_line, read_number, read_train, show_run, show_train
from turnline.trains import check_train, done, moves_of, turned


def kept_line(desk):
    """The line that the desk keeps, or NoLine."""
    if desk.line is None:
        raise NoLine("the desk keeps no line")
    return desk.line


def kept_train(desk):
    """The train that the desk keeps, or NoTrain; NoLine goes ahead."""
    kept_line(desk)
    if desk.train is None:
        raise NoTrain("the desk keeps no train")
    return desk.train


def run_or_none(told):
    """The text of an answer of least, fewest or turn."""
    return show_run(told[1]) if told[0] == "run" else "none"


def keep_line(desk, rest):
    """`line TEXT`: this line is kept, and no train."""
    desk.line = read_line(rest)
    # The old train stood on the old line.
    desk.train = None
    return "ok"


def keep_train(desk, rest):
    """`train TEXT`: this train is kept."""
    train = read_train(rest)
    check_train(kept_line(desk), train)
    desk.train = train
    return "ok"


def keep_shown(desk, train):
    """Keep this train and tell its text."""
    desk.train = train
    return show_train(train)


def go_on(desk, rest):
    """`on END`: the move is done."""
    move = ("on", read_end(rest))
    return keep_shown(desk, done(kept_line(desk), kept_train(desk), move))


def go_back(desk, rest):
    """`back END`: the move is done."""
    move = ("back", read_end(rest))
    return keep_shown(desk, done(kept_line(desk), kept_train(desk), move))


def turn_round(desk):
    """`round`: the train turned round is kept."""
    return keep_shown(desk, turned(kept_train(desk)))


def tell_moves(desk):
    """`moves`: the moves of the train, as a run."""
    return show_run([move for move, behind in moves_of(kept_line(desk), kept_train(desk))])


def tell_train(desk):
    """`here`: the train."""
    return show_train(kept_train(desk))


def tell_least(desk, rest):
    """`least TEXT`: a run to this train with the fewest moves, or none."""
    goal = read_train(rest)
    return run_or_none(least(kept_line(desk), kept_train(desk), goal))


def tell_fewest(desk, rest):
    """`fewest TEXT`: a run to this train with the fewest changes, or none."""
    goal = read_train(rest)
    return run_or_none(fewest(kept_line(desk), kept_train(desk), goal))


def tell_turn(desk):
    """`turn`: a run that turns the train round, or none."""
    return run_or_none(turn(kept_line(desk), kept_train(desk)))


def tell_standings(desk):
    """`standings`: how many the train can come to."""
    return str(len(come_to(kept_line(desk), kept_train(desk))))


def tell_sides(desk, rest):
    """`sides P`: a marking, or a run that turns a train on this piece round."""
    piece = read_number(rest)
    kind, told = sides(kept_line(desk), piece)
    if kind == "run":
        return f"run {show_run(told)}"
    return " ".join(["marking"] + [str(mark) for mark in told])


def tell_longest(desk):
    """`longest`: the most pieces of a train that can be turned round, and such a train."""
    pieces, train = longest(kept_line(desk))
    return str(pieces) if train is None else f"{pieces} {show_train(train)}"


ALONE = {
    "round": turn_round, "moves": tell_moves, "here": tell_train, "turn": tell_turn, "standings": tell_standings,
    "longest": tell_longest}
WITH_REST = {
    "line": keep_line, "train": keep_train, "on": go_on, "back": go_back, "least": tell_least, "fewest": tell_fewest,
    "sides": tell_sides}


class Desk:
    """A line and a train that are kept, none of them at first."""

    def __init__(self):
        self.line = None
        self.train = None

    def say(self, row):
        """The answer to a row, or a refusal, which changes nothing."""
        word, blank, rest = row.partition(" ")
        if rest and word in WITH_REST:
            deed = WITH_REST[word]
            return deed(self, rest)
        if not blank and word in ALONE:
            lone_deed = ALONE[word]
            return lone_deed(self)
        raise NoRow("the desk knows no such row")
