"""Runs: moves one behind the other."""

from turnline.trains import done


def walked(line, train, run):
    """The trains from the first one on; where some move is none the run is refused with NoMove."""
    trains = [list(train)]
    for move in run:
        trains.append(done(line, trains[-1], move))
    return trains


def changes(run):
    """How often a move stands right behind one of the other kind."""
    words = [word for word, end in run]
    return sum([1 for ahead, behind in zip(words, words[1:]) if ahead != behind])
