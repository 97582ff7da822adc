"""What the tests share: asking with care, refusals, and lines to ask about."""

from copy import deepcopy
from itertools import combinations

from turnline.errors import NoLine, NoMove, NoPiece, NoRow, NoText, NoTrain, TooMany, TurnError

REFUSALS = (NoLine, NoTrain, NoMove, NoPiece, TooMany, NoText, NoRow)
FORTY_FIGURES = 10 ** 40 - 1


def lists_in(thing):
    """Every list within a value, itself among them, as often as it stands there."""
    found = [thing] if isinstance(thing, list) else []
    if isinstance(thing, (list, tuple)):
        for part in thing:
            found += lists_in(part)
    return found


def names_of_lists(thing):
    return [id(one) for one in lists_in(thing)]


def ask(case, deed, *given):
    """The answer, after looking whether it is the asker's own and nothing handed in was changed."""
    kept = deepcopy(given)
    first = deed(*given)
    second = deed(*given)
    case.assertEqual(given, kept)
    case.assertEqual(first, second)
    names = names_of_lists(first) + names_of_lists(second) + names_of_lists(given)
    case.assertEqual(len(set(names)), len(names), "a list stands in two places")
    answer = deepcopy(first)
    for told in lists_in(first):
        told.clear()
    case.assertEqual(second, answer)
    case.assertEqual(deed(*given), answer)
    case.assertEqual(given, kept)
    return answer


def refuse(case, kind, deed, *given):
    """Look whether just this refusal is made, twice, and nothing handed in was changed."""
    kept = deepcopy(given)
    for _ in range(2):
        with case.assertRaises(ValueError) as caught:
            deed(*given)
        case.assertIsInstance(caught.exception, TurnError)
        taken = [one for one in REFUSALS if isinstance(caught.exception, one)]
        case.assertEqual(taken, [kind])
        case.assertEqual(given, kept)


def unlike_pairs(many):
    """All joints that a line of so many pieces may have."""
    return [(a, b) for a, b in combinations(range(2 * many), 2) if a // 2 != b // 2]


def small_lines():
    """All lines of one to three pieces."""
    for many in (1, 2, 3):
        pairs = unlike_pairs(many)
        for bits in range(2 ** len(pairs)):
            yield many, [pair for at, pair in enumerate(pairs) if bits >> at & 1]


def chain(many):
    """Pieces one behind the other, each one's greater end joined with the next one's lesser one."""
    return many, [(2 * piece + 1, 2 * piece + 2) for piece in range(many - 1)]
