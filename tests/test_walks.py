"""Long lists of mixed calls, the same each time: answers as the model's, coins kept, and refusals without a trace."""

import random
import unittest

from fundsjoined.book import Book, all_units
from fundsjoined.schemes import answer_of
from tests.calls import HIGHEST, LOWEST, begin, buy, count, effect, plain, propose, proxy, result, run, sell
from tests.calls import transfer, vote
from tests.model import Model

WALKS = 150


class Walk:
    """A list of calls that go by what the model holds, so that many of them are not refused."""

    def __init__(self, seed):
        self.dice = random.Random(seed)
        self.model = Model()
        self.calls = []
        self.told = []

    def number(self, lowest, highest):
        if self.dice.random() < 0.01:
            return self.dice.choice((lowest - 1, highest + 1, LOWEST, HIGHEST))
        return self.dice.randint(lowest, highest)

    def fund(self):
        return self.number(1, 4)

    def holder(self):
        return self.number(1, 7) if self.dice.random() < 0.9 else self.number(1, 20)

    def scheme(self):
        return self.number(1, max(1, len(self.model.schemes)))

    def had(self, f, h):
        """A number of units that h may have of f."""
        if f not in range(1, 7) or h not in range(1, 21):
            return 1
        units = self.model.units[f][h]
        few = self.dice.randint(1, 9)
        return self.dice.choice((units, units, units - few, units // 2, few, units + 1))

    def gain(self, f):
        value = self.model.value[f] if f in range(1, 7) else 0
        few = self.number(-9, 99)
        return self.dice.choice((few, few, value, -(value // 2), 1 - value, -value, 10 ** 12 - value, few * 10 ** 9))

    def millionths(self):
        return self.dice.choice((0, 0, 1, 333333, 500000, 999999, 10 ** 6, self.number(0, 10 ** 6)))

    def bought(self):
        return self.dice.choice((self.number(1, 9), self.number(1, 999), self.number(1, 10 ** 9)))

    def trade(self):
        f, h = self.fund(), self.holder()
        if self.dice.random() < 0.5:
            return buy(f, h, self.bought())
        if self.dice.random() < 0.4:
            return sell(f, h, self.had(f, h))
        return self.dice.choice((transfer(f, h, self.holder(), self.had(f, h)), result(f, self.gain(f))))

    def proposal(self):
        kind = self.dice.choice((1, 1, 1, 1, 2, 2, 2, 2, 3, self.number(1, 3)))
        other = self.number(0, 4) if self.dice.random() < 0.3 else 0 if kind == 3 else self.fund()
        return propose(kind, self.fund(), other, self.millionths(), self.millionths(), self.millionths())

    def on_scheme(self):
        n = self.scheme()
        named = proxy(n, self.holder(), self.holder())
        voted = vote(n, self.holder(), self.number(0, 1) if self.dice.random() < 0.4 else 1)
        return self.dice.choice((named, named, voted, voted, voted, count(n), effect(n), effect(n)))

    def step(self):
        if self.dice.random() < 0.003:
            call = begin()
        elif self.dice.random() < 0.05:
            call = self.proposal()
        else:
            call = self.on_scheme() if self.dice.random() < 0.6 else self.trade()
        self.calls.append(call)
        self.told.append(self.model.answer(call))

    def go(self, steps):
        for step in range(steps):
            self.step()
        return self


class Walks(unittest.TestCase):

    def test_answers_are_the_models(self):
        met = set()
        for seed in range(WALKS):
            walk = Walk(seed).go(400)
            self.assertEqual(run(walk.calls), walk.told, seed)
            met |= {(call[0], answer[0] if answer[0] < 0 or call[0] in (8, 9) else 0)
                    for call, answer in zip(walk.calls, walk.told)}
        # A walk that met few of the answers would show little.
        wanted = {(1, 0), (1, -6), (1, -7), (1, -8), (1, -9), (2, 0), (2, -4), (2, -6), (2, -7),
                  (3, 0), (3, -4), (3, -6), (3, -7), (4, 0), (4, -7), (4, -8), (4, -9), (5, 0), (5, -6), (5, -8),
                  (6, 0), (6, -4), (6, -5), (7, 0), (7, -4), (7, -5), (7, -6), (8, 1), (8, 2), (8, -4), (8, -5),
                  (9, 1), (9, 2), (9, 3), (9, -4), (9, -5), (9, -6), (9, -8), (9, -9)}
        wanted |= {(call, -1) for call in range(1, 10)}
        self.assertEqual(wanted - met, set())

    def test_what_is_kept_holds_together(self):
        for seed in range(WALKS // 3):
            book, gains = Book(), 0
            for call in Walk(seed).go(400).calls:
                if call == [0]:
                    book, gains = Book(), 0
                    continue
                was = plain(book)
                answer = answer_of(book, call[0], call[1:])
                if answer[0] < 0:
                    self.assertEqual(plain(book), was, call)
                elif call[0] == 4:
                    gains += call[2]
                self.check(book, gains)

    def check(self, book, gains):
        for fund in book.funds.values():
            self.assertTrue(0 <= fund.value <= 10 ** 12)
            self.assertTrue(all_units(fund) <= 10 ** 18)
            self.assertTrue(all_units(fund) > 0 or fund.value == 0)
            for holding in fund.holdings.values():
                self.assertTrue(holding.units >= 1 and holding.cost >= 0 and holding.paid == 0)
        # Coins come and go by results alone.
        self.assertEqual(sum(book.cash.values()) + sum([fund.value for fund in book.funds.values()]), gains)


if __name__ == "__main__":
    unittest.main()
