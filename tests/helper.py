"""What the tests share: asking with care, refusals, and lines to ask about."""

from copy import deepcopy
from itertools import combinations, product
from random import Random

from turnline.errors import NoLine, NoMove, NoPiece, NoRow, NoText, NoTrain, TooMany, TurnError

REFUSALS = (NoLine, NoTrain, NoMove, NoPiece, TooMany, NoText, NoRow)
FORTY_FIGURES = 10 ** 40 - 1


def lists_in(thing):
    """Every list within a value, itself among them, as often as it stands there."""
    found = [thing] if isinstance(thing, list) else []
    if isinstance(thing, (list, tuple)):
        for part in thing:
            found += lists_in(part)
    return found


def names_of_lists(thing):
    return [id(one) for one in lists_in(thing)]


def ask(case, deed, *given):
    """The answer, after looking whether it is the asker's own and nothing handed in was changed."""
    kept = deepcopy(given)
    first = deed(*given)
    second = deed(*given)
    case.assertEqual(given, kept)
    case.assertEqual(first, second)
    names = names_of_lists(first) + names_of_lists(second)
    case.assertEqual(len(set(names)), len(names), "a list stands in two places")
    case.assertTrue(set(names).isdisjoint(names_of_lists(given)), "a list was handed in")
    answer = deepcopy(first)
    for told in lists_in(first):
        told.clear()
    case.assertEqual(second, answer)
    case.assertEqual(deed(*given), answer)
    case.assertEqual(given, kept)
    return answer


def refuse(case, kind, deed, *given):
    """Look whether just this refusal is made, twice, and nothing handed in was changed."""
    kept = deepcopy(given)
    for _ in range(2):
        with case.assertRaises(ValueError) as caught:
            deed(*given)
        case.assertIsInstance(caught.exception, TurnError)
        taken = [one for one in REFUSALS if isinstance(caught.exception, one)]
        case.assertEqual(taken, [kind])
        case.assertEqual(given, kept)


def unlike_pairs(many):
    """All joints that a line of so many pieces may have."""
    return [(a, b) for a, b in combinations(range(2 * many), 2) if a // 2 != b // 2]


def small_lines():
    """All lines of one to three pieces."""
    for many in (1, 2, 3):
        pairs = unlike_pairs(many)
        for bits in range(2 ** len(pairs)):
            yield many, [pair for at, pair in enumerate(pairs) if bits >> at & 1]


def chain(many):
    """Pieces one behind the other, each one's greater end joined with the next one's lesser one."""
    return many, [(2 * piece + 1, 2 * piece + 2) for piece in range(many - 1)]


# A triangle of 0, 1, 2, each with its greater end joined with the next one's lesser one; 3 and 4 leave it by switches.
TRIANGLE = (5, [(1, 2), (3, 4), (0, 5), (1, 6), (5, 8), (7, 9)])
# The piece 0 leads to the loop's piece 1, whose both ends are joined with it.
LOOP = (2, [(1, 2), (1, 3)])
# A row of six pieces whose last one leads back to the first one.
RING = (6, [(0, 11)] + chain(6)[1])


def is_joint(line, a, b):
    return (a, b) in line[1] or (b, a) in line[1]


def is_train(line, train):
    """Point [7] word by word, to hold check_train against."""
    pieces = [end // 2 for end in train]
    if not train or len(set(pieces)) != len(pieces):
        return False
    for end in train:
        if end not in range(2 * line[0]):
            return False
    return all(is_joint(line, train[at] ^ 1, train[at + 1]) for at in range(len(train) - 1))


def moves_by_words(line, train):
    """Point [8] word by word, over all ends, to hold moves_of against."""
    free = [end for end in range(2 * line[0]) if end not in train and end ^ 1 not in train]
    on = [(("on", end), train[1:] + [end]) for end in free if is_joint(line, train[-1] ^ 1, end)]
    back = [(("back", end), [end ^ 1] + train[:-1]) for end in free if is_joint(line, train[0], end)]
    return on + back


def small_trains():
    """Every twenty-third small line, with every train of it."""
    for at, line in enumerate(small_lines()):
        if at % 23 == 0 or at < 20:
            for length in (1, 2, 3):
                for ends in product(range(2 * line[0]), repeat=length):
                    if is_train(line, list(ends)):
                        yield line, list(ends)


# Standings counted by `reached`: 300 of a train that can't be turned round, 300 of one that can, then 301, 302 (it can
# be turned round) and 780.
THREE_HUNDRED = ((7, [
    (0, 3), (0, 7), (0, 9), (0, 13), (1, 4), (1, 10), (2, 5), (2, 7), (2, 11), (2, 13), (3, 6), (3, 8), (4, 13), (5, 6),
    (5, 10), (6, 9), (6, 11), (6, 13), (7, 8), (7, 12), (8, 11), (8, 13), (9, 12), (11, 12)]), [0, 10, 8, 6, 12])
THREE_HUNDRED_BOTH_WAYS = ((6, [
    (0, 4), (0, 6), (0, 11), (1, 2), (1, 3), (1, 4), (1, 5), (1, 7), (1, 10), (2, 6), (2, 7), (2, 8), (3, 6), (3, 9),
    (4, 7), (4, 8), (5, 6), (5, 7), (5, 10), (6, 9), (7, 8), (7, 11), (8, 10)]), [2, 1, 6, 11])
ONE_TOO_MANY = ((7, [
    (0, 3), (0, 5), (0, 7), (1, 2), (1, 8), (1, 10), (2, 5), (2, 9), (2, 13), (3, 4), (3, 6), (3, 10), (4, 7), (4, 9),
    (4, 11), (5, 6), (5, 10), (5, 12), (6, 13), (7, 8), (7, 10), (8, 11), (9, 12), (11, 12)]), [9, 1, 3, 5, 11])
TWO_TOO_MANY = ((9, [
    (0, 2), (0, 7), (0, 10), (1, 10), (1, 17), (2, 4), (2, 5), (3, 7), (3, 8), (3, 17), (4, 7), (4, 10), (5, 11),
    (5, 12), (6, 8), (6, 13), (7, 11), (7, 15), (9, 15), (10, 15), (12, 14), (13, 16), (15, 17)]), [5, 2, 7, 8, 15])
FAR_TOO_MANY = ((9, [
    (0, 10), (0, 15), (0, 17), (1, 3), (1, 5), (2, 4), (2, 9), (2, 17), (3, 4), (3, 17), (4, 7), (4, 11), (4, 13),
    (5, 7), (5, 16), (6, 9), (6, 12), (7, 14), (8, 13), (8, 17), (10, 12), (10, 15), (11, 16), (12, 14)]),
    [10, 4, 16, 2, 1, 15])
TOO_MANY = (ONE_TOO_MANY, TWO_TOO_MANY, FAR_TOO_MANY)


# Lines by the length and the number of their trains of this length.
EXACTLY = {
    (4, 300): (5, [
        (0, 2), (0, 3), (0, 5), (0, 8), (1, 2), (1, 3), (1, 4), (1, 8), (1, 9), (2, 5), (2, 8), (3, 5), (3, 7), (3, 8),
        (3, 9), (4, 7), (4, 8), (4, 9), (6, 8), (6, 9), (7, 8), (7, 9)]),
    (4, 302): (6, [
        (0, 3), (0, 4), (0, 5), (0, 9), (1, 4), (2, 5), (2, 8), (2, 9), (2, 11), (3, 6), (3, 8), (4, 6), (4, 7), (4, 8),
        (5, 7), (5, 10), (5, 11), (6, 8), (6, 9), (6, 10), (8, 10), (9, 10), (9, 11)]),
    (5, 300): (9, [
        (0, 2), (0, 7), (0, 16), (1, 2), (1, 5), (1, 9), (1, 13), (1, 17), (2, 6), (2, 12), (2, 17), (3, 11), (3, 17),
        (4, 10), (6, 8), (6, 11), (6, 12), (6, 15), (7, 9), (9, 13), (10, 15), (11, 13), (11, 14), (14, 17)]),
    (5, 302): (5, [
        (0, 4), (0, 6), (0, 8), (1, 3), (1, 4), (1, 5), (1, 7), (1, 8), (1, 9), (2, 5), (2, 6), (2, 8), (3, 4), (3, 5),
        (3, 7), (3, 9), (4, 9), (5, 6), (6, 9), (7, 8), (7, 9)]),
    (6, 300): (6, [
        (0, 2), (0, 3), (0, 6), (0, 8), (0, 9), (1, 2), (1, 3), (1, 11), (2, 4), (2, 5), (2, 7), (2, 11), (3, 7),
        (4, 7), (4, 9), (4, 11), (5, 9), (5, 10), (6, 11), (7, 11), (8, 10), (9, 10)]),
    (6, 302): (8, [
        (0, 14), (1, 2), (1, 13), (1, 15), (2, 10), (2, 14), (2, 15), (3, 7), (3, 8), (3, 9), (4, 7), (5, 7), (5, 9),
        (5, 12), (5, 13), (6, 8), (6, 10), (6, 11), (6, 15), (7, 15), (8, 14), (9, 11)]),
}
# Four pieces, joined all with all but for one joint: of longer trains than four there are none.
COMPLETE_FOUR = (4, [pair for pair in unlike_pairs(4) if pair != (1, 2)])
# Lines with the lengths, from 1 to 6, of which they have more than 300 trains.
OVER = [
    (COMPLETE_FOUR, [4]),
    ((6, [
        (0, 5), (0, 10), (1, 2), (1, 3), (1, 4), (1, 7), (1, 10), (1, 11), (2, 6), (2, 8), (3, 4), (4, 6), (4, 8),
        (4, 10), (4, 11), (5, 10), (5, 11), (6, 11), (7, 9), (7, 10), (7, 11), (8, 10)]), [5]),
    ((9, [
        (0, 7), (0, 8), (0, 12), (1, 16), (2, 6), (2, 7), (2, 15), (3, 7), (3, 16), (5, 17), (6, 8), (6, 13), (8, 11),
        (8, 13), (8, 15), (9, 12), (10, 13), (10, 14), (10, 17), (11, 12), (12, 14), (13, 17)]), [6]),
    (EXACTLY[(5, 302)], [5]),
    (EXACTLY[(6, 302)], [5, 6]),
]
# What longest tells, with a line of which it tells so.
LONGEST = [
    ((0, None), (6, [(0, 11), (1, 10), (2, 10), (3, 5), (4, 9), (7, 10)])),
    ((1, [2]), (7, [(2, 9), (5, 6), (5, 7), (5, 8), (7, 11), (8, 10), (10, 12), (11, 13)])),
    ((2, [2, 7]), (8, [(0, 10), (2, 15), (3, 7), (3, 9), (6, 12), (7, 14), (8, 12)])),
    ((3, [0, 4, 8]), (5, [
        (0, 3), (0, 4), (0, 7), (1, 4), (1, 5), (1, 6), (1, 8), (1, 9), (2, 6), (2, 7), (2, 9), (3, 4), (4, 7),
        (5, 8)])),
    ((4, [0, 4, 7, 3]), (8, [
        (0, 6), (0, 9), (0, 15), (1, 4), (1, 6), (1, 9), (1, 14), (3, 6), (3, 11), (4, 6), (4, 7), (4, 9), (5, 7),
        (6, 8), (7, 8), (7, 9), (7, 11), (8, 15), (10, 12), (10, 14), (11, 15)])),
    ((5, [0, 12, 4, 16, 7]), (12, [
        (0, 11), (0, 20), (1, 12), (1, 23), (2, 6), (2, 23), (3, 7), (3, 8), (4, 13), (5, 16), (6, 8), (6, 10), (6, 18),
        (6, 22), (7, 17), (9, 18), (10, 22), (11, 19), (15, 16), (19, 23)])),
    ((6, [1, 10, 3, 15, 5, 8]), (12, [
        (0, 10), (2, 15), (3, 11), (3, 14), (4, 8), (4, 11), (4, 22), (5, 14), (6, 10), (6, 16), (7, 9), (7, 22),
        (8, 18), (9, 20), (11, 22), (13, 14), (13, 22), (14, 20), (17, 23), (18, 20), (19, 21)])),
]


def reached(line, train):
    """Point [10] word by word, as (standing, fewest moves): a going through by rounds, to hold come_to against."""
    rows = [(train, 0)]
    known = {tuple(train)}
    newest = [train]
    while newest:
        ahead, newest = newest, []
        for standing in ahead:
            for _, behind in moves_by_words(line, standing):
                if tuple(behind) not in known:
                    known.add(tuple(behind))
                    newest.append(behind)
                    rows.append((behind, rows_number(rows, standing) + 1))
    return rows


def rows_number(rows, standing):
    return next(number for listed, number in rows if listed == standing)


def standings_of(rows):
    return [row[0] for row in rows]


def well_listed(line, train, standings):
    """Whether all are trains of the line, of as many pieces as the train, none twice."""
    if any(not is_train(line, standing) or len(standing) != len(train) for standing in standings):
        return False
    return all(standings.count(standing) == 1 for standing in standings)


def wrong_goals(line, train):
    """Lists that are no trains, of the train's length and of others."""
    ends = (-1, -2, -FORTY_FIGURES, 2 * line[0], 2 * line[0] + 1, FORTY_FIGURES)
    wrong = [[]] + [train[:-1] + [end] for end in ends] + [[end] + train[1:] for end in ends]
    wrong += [train + train, train + [train[-1] ^ 1], [train[0] ^ 1] + train]
    return wrong + ([train[:-1] + [train[0]], train[:-1] + [train[0] ^ 1]] if len(train) > 1 else [])


def trains_by_words(line, length):
    """Every train of so many pieces, in the order of lists."""
    trains = [[end] for end in range(2 * line[0])]
    for _ in range(length - 1):
        trains = [train + [end] for train in trains for end in range(2 * line[0]) if is_train(line, train + [end])]
    return trains


def chance_lines(many, seed):
    """So many lines of two to nine pieces, the same ones each time."""
    chance = Random(seed)
    for _ in range(many):
        pieces = chance.randint(2, 9)
        pairs = unlike_pairs(pieces)
        joints = chance.sample(pairs, min(chance.randint(pieces - 1, 2 * pieces), len(pairs)))
        yield pieces, joints


def chance_trains(many, seed):
    """So many lines, each with a train of one to six pieces."""
    chance = Random(seed)
    for line in chance_lines(many, seed):
        trains = [train for length in range(1, 7) for train in trains_by_words(line, length)]
        length = chance.choice(sorted({len(train) for train in trains}))
        yield line, chance.choice([train for train in trains if len(train) == length])


def finer_by_words(line, train):
    """Point [20] word by word: the finer line and the finer train."""
    becomes = {}
    for piece in range(line[0]):
        becomes[2 * piece], becomes[2 * piece + 1] = 4 * piece, 4 * piece + 3
    joints = [(becomes[a], becomes[b]) for a, b in line[1]]
    halves = [(4 * piece + 1, 4 * piece + 2) for piece in range(line[0])]
    ends = []
    for end in train:
        ends += [becomes[end], becomes[end] + 2 if end % 2 == 0 else becomes[end] - 2]
    return (2 * line[0], joints + halves), ends


def marred(chance, line, rows):
    """A paper with one or two things done to it by chance: perhaps wrong now, perhaps not."""
    rows = [(list(row[0]),) + row[1:] for row in rows]
    for _ in range(chance.randint(1, 2)):
        if rows:
            chance.choice((mar_number, mar_number, mar_standing, mar_rows))(chance, line, rows)
    return rows


def mar_number(chance, line, rows):
    at = chance.randrange(len(rows))
    standing, *numbers = rows[at]
    numbers[chance.randrange(len(numbers))] += chance.choice((-2, -1, -1, 1, 2))
    rows[at] = (standing, *numbers)


def mar_standing(chance, line, rows):
    standing = chance.choice(rows)[0]
    deed = chance.choice(("end", "longer", "shorter"))
    if deed == "end" and standing:
        standing[chance.randrange(len(standing))] += chance.choice((-FORTY_FIGURES, -2, -1, 1, 2, FORTY_FIGURES))
    elif deed == "shorter" and standing:
        standing.pop()
    else:
        standing.append(chance.randrange(2 * line[0]))


def mar_rows(chance, line, rows):
    at = chance.randrange(len(rows))
    deed = chance.choice(("away", "twice", "order", "lessened", "all"))
    if deed == "away":
        rows.pop(at)
    elif deed == "twice":
        rows.append((list(rows[at][0]),) + rows[at][1:])
    elif deed == "order":
        chance.shuffle(rows)
    elif deed == "lessened":
        rows[:] = [(row[0],) + tuple(number // 2 for number in row[1:]) for row in rows]
    else:
        others = trains_by_words(line, len(rows[at][0]))
        rows += [(train,) + rows[at][1:] for train in others if train not in standings_of(rows)]
