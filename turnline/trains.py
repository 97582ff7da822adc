"""Trains: the ends by which they came onto their pieces, and their moves."""

from turnline.errors import NoMove, NoTrain
from turnline.lines import is_end, joined, other_end, piece_of


def check_train(line, train):
    """Refuse with NoTrain what is no train of the line."""
    if not train:
        raise NoTrain("a train stands on one piece or more")
    for end in train:
        if not is_end(line, end):
            raise NoTrain("a train has an end of no piece")
    if len({piece_of(end) for end in train}) < len(train):
        raise NoTrain("a train stands twice on a piece")
    for end, following in zip(train, train[1:]):
        if following not in joined(line, other_end(end)):
            raise NoTrain("two ends that follow one another in the train are not joined")


def turned(train):
    """The train turned round."""
    return [other_end(end) for end in reversed(train)]


def free_ends(line, train, end):
    """The ends joined with this end whose pieces the train does not stand on, rising."""
    pieces = [piece_of(own) for own in train]
    return [there for there in joined(line, end) if piece_of(there) not in pieces]


def moves_of(line, train):
    """The moves of the train, each with the train behind it: on ahead of back, by ends rising."""
    told = []
    for end in free_ends(line, train, other_end(train[-1])):
        told.append((("on", end), train[1:] + [end]))
    for end in free_ends(line, train, train[0]):
        told.append((("back", end), [other_end(end)] + train[:-1]))
    return told


def done(line, train, move):
    """The train behind this move; what is no move of the train is refused with NoMove."""
    for own, behind in moves_of(line, train):
        if own == move:
            return behind
    raise NoMove("this is no move of the train")
