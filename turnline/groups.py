"""Groups: all trains of one length, parted by what they can come to."""

from turnline.errors import TooMany
from turnline.lines import other_end
from turnline.standings import come_to
from turnline.trains import free_ends, turned

MOST_TRAINS = 300
MOST_LENGTH = 6


def trains_of(line, length):
    """All trains of this length, in the order of lists; more than 300 are refused with TooMany."""
    found = []
    # The next one to grow is taken from the end, so what is to come first stands last.
    waiting = [[end] for end in reversed(range(2 * line[0]))]
    while waiting:
        train = waiting.pop()
        if len(train) < length:
            ends = free_ends(line, train, other_end(train[-1]))
            waiting.extend([train + [end] for end in reversed(ends)])
        elif len(train) == length:
            if len(found) == MOST_TRAINS:
                raise TooMany(f"there are more than {MOST_TRAINS} trains of this length")
            found.append(train)
    return found


def parted(line, trains):
    """The groups of these trains, which are all of their length, and the number of the group of each train."""
    numbers = {}
    found = []
    for train in trains:
        if tuple(train) not in numbers:
            group = sorted(come_to(line, train))
            for standing in group:
                numbers[tuple(standing)] = len(found)
            found.append(group)
    return found, numbers


def groups(line, length):
    """The groups of all trains of this length, each with the number of its twin, or TooMany."""
    found, numbers = parted(line, trains_of(line, length))
    # Where one train can come to another, so can they turned round: one standing tells the whole group's twin.
    return [(group, numbers[tuple(turned(group[0]))]) for group in found]


def first_own_twin(line, length):
    """The first standing of the first group of this length that is its own twin, or None."""
    for at, (standings, twin) in enumerate(groups(line, length)):
        if twin == at:
            return standings[0]
    return None


def longest(line):
    """The most pieces, of at most six, of a train that can be turned round, and such a train; (0, None) for none."""
    best = (0, None)
    # No length is left out: too many trains of any of them are to be refused.
    for length in range(1, MOST_LENGTH + 1):
        train = first_own_twin(line, length)
        if train is not None:
            best = (length, train)
    return best
