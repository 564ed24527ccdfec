"""Calls written by name, and ways to ask what they answer and what they change."""

from fundsjoined.book import Book
from fundsjoined.schemes import answer_of, answers

LOWEST = -2 ** 63
HIGHEST = 2 ** 63 - 1
MOST_UNITS = 10 ** 18
MOST_VALUE = 10 ** 12
MILLION = 10 ** 6

JOIN = 1
DIVIDE = 2
CLOSE = 3


def begin():
    return [0]


def buy(f, h, m):
    return [1, f, h, m]


def sell(f, h, u):
    return [2, f, h, u]


def transfer(f, h, g, u):
    return [3, f, h, g, u]


def result(f, d):
    return [4, f, d]


def propose(kind, a, b, part=0, quorum=0, need=0):
    return [5, kind, a, b, part, quorum, need]


def vote(n, h, pro):
    return [6, n, h, pro]


def proxy(n, h, g):
    return [7, n, h, g]


def count(n):
    return [8, n]


def effect(n):
    return [9, n]


def pay(f, m):
    return [10, f, m]


def last_payment(f):
    return [11, f]


def fund(f):
    return [12, f]


def holding(f, h):
    return [13, f, h]


def cash_of(h):
    return [14, h]


def holders(f):
    return [15, f]


def scheme(n):
    return [16, n]


def tally(n):
    return [17, n]


def speaker(n, h):
    return [18, n, h]


def offer(a, b, h):
    return [19, a, b, h]


# All that can be asked of funds, holders and schemes; not the offers and the speakers, which go by these.
EVERYTHING = ([fund(f) for f in range(1, 7)] + [holders(f) for f in range(1, 7)]
              + [holding(f, h) for f in range(1, 7) for h in range(1, 21)] + [cash_of(h) for h in range(1, 21)]
              + [scheme(n) for n in range(1, 21)] + [tally(n) for n in range(1, 21)])


def passed(n, kind, a, b, part, h):
    """The calls that make scheme n and pass it by h's vote alone."""
    return [propose(kind, a, b, part), vote(n, h, 1), count(n)]


def flat(calls):
    return [number for call in calls for number in call]


def run(calls):
    """What each of the calls answers, as a list for each."""
    given = answers(flat(calls))
    split = []
    place = 0
    while place < len(given):
        end = place + 1 + given[place]
        split.append(given[place + 1:end])
        place = end
    if place != len(given) or len(split) != len(calls):
        raise AssertionError(f"counts that don't fit: {given}")
    return split


def last(calls):
    return run(calls)[-1]


def behind(before, calls):
    """What the calls answer behind those before."""
    return run(before + calls)[len(before):]


def book_after(calls):
    book = Book()
    for call in calls:
        if call == [0]:
            book = Book()
        else:
            answer_of(book, call[0], call[1:])
    return book


def plain(thing):
    """All that an object keeps, as dicts and numbers that can be compared."""
    if isinstance(thing, dict):
        return {key: plain(value) for key, value in thing.items()}
    if hasattr(thing, "__dict__"):
        return plain(vars(thing))
    return thing


def holdings(book, f):
    """Of each holder of the fund the units and the cost."""
    return {h: (held.units, held.cost) for h, held in sorted(book.funds[f].holdings.items())}


def cash(book):
    """The cash of the holders who have any."""
    return {h: coins for h, coins in book.cash.items() if coins != 0}


class Asking:
    """What the tests of all calls ask in the same way; stands beside unittest.TestCase."""

    def assert_refused(self, before, call, refusal):
        """The call answers the refusal, keeps all as it was, and later calls answer as if it had not been."""
        self.assertEqual(behind(before, [call] + EVERYTHING), [[refusal]] + behind(before, EVERYTHING), call)
        book = book_after(before)
        was = plain(book)
        self.assertEqual(answer_of(book, call[0], call[1:]), [refusal])
        self.assertEqual(plain(book), was, call)

    def assert_range(self, before, call, place, lowest, highest):
        """The number at that place of the call is taken from lowest to highest, and refused with -1 beyond."""
        for number in (lowest - 1, highest + 1, LOWEST, HIGHEST):
            self.assert_refused(before, call[:place] + [number] + call[place + 1:], -1)
        for number in (lowest, highest):
            answer = last(before + [call[:place] + [number] + call[place + 1:]])
            self.assertNotEqual(answer, [-1], (call, place, number))
