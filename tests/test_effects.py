import unittest

from tests.calls import CLOSE, DIVIDE, HIGHEST, JOIN, LOWEST, MILLION, MOST_UNITS, MOST_VALUE, Asking
from tests.calls import begin, book_after, buy, cash, count, effect, holdings, last, passed, proxy, propose, result
from tests.calls import run, sell, transfer, vote

# Fund 2 with 10 units of holder 2 and 5 of holder 3, each worth 10 coins.
DEAR = [buy(2, 2, 1), sell(2, 2, 999990), result(2, 99), buy(2, 3, 50)]
# Units of fund 1: 3000000 and 1000000, worth 107 coins in all.
CHEAP = [buy(1, 1, 3), buy(1, 2, 1), result(1, 103)]
TWO = [buy(1, 1, 4), buy(1, 2, 3)]


def joined(h=1):
    return passed(1, JOIN, 1, 2, 0, h) + [effect(1)]


def divided(part):
    return passed(1, DIVIDE, 1, 2, part, 1) + [effect(1)]


class EachEffect(Asking, unittest.TestCase):

    def test_the_scheme_number(self):
        before = TWO + passed(1, CLOSE, 1, 0, 0, 1)
        for n in (0, -1, MILLION + 1, LOWEST, HIGHEST):
            self.assert_refused(before, effect(n), -1)
        for n in (2, 20, MILLION):
            self.assert_refused(before, effect(n), -4)
        self.assert_refused([], effect(1), -4)
        self.assert_refused(before + [begin()], effect(1), -4)

    def test_a_scheme_that_has_not_passed(self):
        for kind, other in ((JOIN, 2), (DIVIDE, 2), (CLOSE, 0)):
            proposed = TWO + [propose(kind, 1, other), vote(1, 1, 1)]
            self.assert_refused(proposed, effect(1), -5)
            self.assert_refused(proposed + [vote(1, 1, 0), count(1)], effect(1), -5)
            self.assert_refused(proposed + [count(1), effect(1)], effect(1), -5)

    def test_done_is_told_ahead_of_the_fund(self):
        self.assert_refused(TWO + joined(), effect(1), -5)
        self.assert_refused(TWO + [propose(CLOSE, 3, 0), count(1)], effect(1), -5)

    def test_a_fund_without_units(self):
        for kind, other in ((JOIN, 2), (DIVIDE, 2), (CLOSE, 0)):
            emptied = [buy(1, 1, 4)] + passed(1, kind, 1, other, 0, 1) + [sell(1, 1, 4000000)]
            self.assert_refused(emptied, effect(1), -6)
            self.assertEqual(last(emptied + [buy(1, 2, 1), effect(1)])[0], kind)

    def test_a_fund_that_is_closing(self):
        for kind, other in ((JOIN, 2), (DIVIDE, 2), (CLOSE, 0)):
            before = TWO + passed(1, kind, 1, other, 0, 1) + passed(2, CLOSE, 1, 0, 0, 1) + [effect(2)]
            self.assert_refused(before, effect(1), -6)

    def test_another_fund_that_is_closing(self):
        for kind in (JOIN, DIVIDE):
            before = TWO + [buy(2, 3, 1)] + passed(1, kind, 1, 2, 0, 1) + passed(2, CLOSE, 2, 0, 0, 3) + [effect(2)]
            self.assert_refused(before, effect(1), -6)
            self.assert_refused(before + [result(2, -1)], effect(1), -6)

    def test_a_refused_scheme_may_take_effect_later(self):
        before = TWO + [buy(2, 3, 1), result(2, -1)] + passed(1, JOIN, 1, 2, 0, 1)
        self.assertEqual(run(before + [effect(1), effect(1), result(2, 1), effect(1), effect(1)])[7:],
                         [[-9], [-9], [1], [1, 0, 7000000], [-5]])

    def test_one_scheme_behind_another(self):
        calls = TWO + passed(1, DIVIDE, 1, 2, 500000, 1) + passed(2, JOIN, 1, 3, 0, 1) + passed(3, CLOSE, 2, 0, 0, 2)
        calls = calls + [effect(1), effect(2), effect(3)]
        self.assertEqual(run(calls)[-4:], [[2, 0, 0, 0], [2, 3], [1, 0, 7000000], [-5]])

    def test_states(self):
        proposed = TWO + [propose(CLOSE, 1, 0), vote(1, 1, 1)]
        for calls, state in (([], 0), ([count(1)], 1), ([vote(1, 1, 0), count(1)], 2), ([count(1), effect(1)], 3)):
            self.assertEqual(book_after(proposed + calls).schemes[1].state, state)

    def test_the_vote_through_another(self):
        calls = TWO + [propose(CLOSE, 1, 0, 0, MILLION, MILLION), proxy(1, 1, 20), proxy(1, 2, 1), vote(1, 20, 1)]
        self.assertEqual(run(calls + [count(1), effect(1)])[-2:], [[1, 7000000, 7000000, 7000000], [3]])


class Join(Asking, unittest.TestCase):

    def test_into_a_fund_without_units(self):
        calls = TWO + [result(1, 93), transfer(1, 2, 3, 1)] + joined()
        self.assertEqual(last(calls), [1, 0, 7000000])
        book = book_after(calls)
        self.assertEqual((book.funds[2].value, book.funds[1].value), (100, 0))
        self.assertEqual(holdings(book, 2), {1: (4000000, 4), 2: (2999999, 3), 3: (1, 0)})
        self.assertEqual((holdings(book, 1), cash(book)), ({}, {1: -4, 2: -3}))

    def test_the_fund_is_empty_afterwards(self):
        calls = TWO + joined() + [sell(1, 1, 1), result(1, 0), buy(1, 1, 2), sell(2, 1, 4000000), sell(2, 2, 3000000)]
        self.assertEqual(run(calls)[6:], [[-4], [-9], [2000000], [4, 4], [3, 3]])

    def test_into_a_fund_with_units(self):
        calls = DEAR + CHEAP + joined()
        # Holder 1: 80.25 coins are 8 units; holder 2: 26.75 coins are 2 units and 6 coins.
        self.assertEqual(last(calls), [1, 6, 10])
        book = book_after(calls)
        self.assertEqual((book.funds[2].value, book.funds[1].value), (251, 0))
        self.assertEqual(holdings(book, 2), {1: (8, 3), 2: (12, 1), 3: (5, 50)})
        self.assertEqual((holdings(book, 1), cash(book)), ({}, {1: -3, 2: 4, 3: -50}))
        self.assertEqual(run(calls + [sell(2, 1, 8), sell(2, 2, 12), sell(2, 3, 5)])[-3:],
                         [[80, 3], [120, 1], [51, 50]])

    def test_the_cost_is_less_by_the_cash(self):
        calls = DEAR + [buy(1, 1, 120), buy(1, 2, 40), result(1, -53)] + joined()
        self.assertEqual(last(calls), [1, 6, 10])
        self.assertEqual(holdings(book_after(calls), 2), {1: (8, 120), 2: (12, 35), 3: (5, 50)})

    def test_cash_as_much_as_the_cost(self):
        for cost, added in ((5, 0), (6, 0), (7, 1)):
            calls = DEAR + [buy(1, 2, cost), result(1, 16 - cost)] + joined(2)
            self.assertEqual(last(calls), [1, 6, 1])
            self.assertEqual(holdings(book_after(calls), 2)[2], (11, 1 + added))

    def test_cash_alone_to_one_without_units_of_the_other(self):
        calls = DEAR + [buy(1, 1, 60), buy(1, 4, 20), result(1, -44)] + joined()
        # Holder 1: 27 coins are 2 units and 7 coins; holder 4: 9 coins make no unit.
        self.assertEqual(last(calls), [1, 16, 2])
        book = book_after(calls)
        self.assertEqual(holdings(book, 2), {1: (2, 53), 2: (10, 1), 3: (5, 50)})
        self.assertEqual((book.funds[2].value, cash(book)), (170, {1: -53, 2: -1, 3: -50, 4: -11}))
        self.assertEqual(run(calls + [sell(2, 4, 1), buy(2, 4, 10), sell(2, 4, 1)])[-3:], [[-4], [1], [10, 10]])

    def test_cash_alone_to_one_with_units_of_the_other(self):
        calls = DEAR + [buy(1, 1, 60), buy(1, 2, 20), result(1, -44)] + joined()
        self.assertEqual(last(calls), [1, 16, 2])
        self.assertEqual(holdings(book_after(calls), 2), {1: (2, 53), 2: (10, 12), 3: (5, 50)})

    def test_nothing_but_cash(self):
        calls = DEAR + [buy(1, 5, 9)] + joined(5)
        self.assertEqual(last(calls), [1, 9, 0])
        book = book_after(calls)
        self.assertEqual((book.funds[2].value, holdings(book, 2)), (150, {2: (10, 1), 3: (5, 50)}))
        self.assertEqual((holdings(book, 1), book.funds[1].value, book.cash[5]), ({}, 0, 0))

    def test_below_a_coin_stays(self):
        calls = DEAR + [buy(1, 1, 1), transfer(1, 1, 2, 500000)] + joined()
        self.assertEqual(last(calls), [1, 0, 0])
        self.assertEqual(book_after(calls).funds[2].value, 151)

    def test_of_a_fund_without_value(self):
        calls = DEAR + TWO + [result(1, -7)] + joined()
        self.assertEqual(last(calls), [1, 0, 0])
        self.assertEqual((book_after(calls).funds[2].value, holdings(book_after(calls), 2)),
                         (150, {2: (10, 4), 3: (5, 50)}))

    def test_of_a_fund_without_value_into_one_without_units(self):
        calls = TWO + [result(1, -7)] + joined()
        self.assertEqual(run(calls + [buy(2, 1, 1), sell(2, 1, 4000000)])[-3:], [[1, 0, 7000000], [-9], [0, 4]])

    def test_into_units_without_value(self):
        self.assert_refused(TWO + [buy(2, 3, 1), result(2, -1)] + joined()[:-1], effect(1), -9)
        self.assert_refused(TWO + [result(1, -7), buy(2, 3, 1), result(2, -1)] + joined()[:-1], effect(1), -9)

    def test_into_a_single_unit(self):
        single = TWO + [buy(2, 3, 1), sell(2, 3, 999999)]
        self.assertEqual(last(single + joined()), [1, 0, 7])
        self.assert_refused(single + [result(2, -1)] + joined()[:-1], effect(1), -9)

    def test_products_beyond_64_bits(self):
        full = [buy(1, 1, 10 ** 9), result(1, 1 - 10 ** 9), buy(1, 2, 999), result(1, 10 ** 9 - 1000)]
        self.assertEqual(last(full + [buy(2, 3, 3), result(2, 4)] + joined(2)), [1, 0, 428571428571 + 428142857142857])
        calls = full + [buy(2, 3, 1), sell(2, 3, 999997), result(2, 6)] + joined(2)
        # A unit is worth 7/3 coins. Holder 1: 1000000 coins are 428571 units and 1 coin.
        # Holder 2: 999000000 coins are 428142857 units and a third of a coin.
        self.assertEqual(last(calls), [1, 1, 428571428])
        book = book_after(calls)
        self.assertEqual(holdings(book, 2), {1: (428571, 10 ** 9 - 1), 2: (428142857, 999), 3: (3, 1)})
        self.assertEqual((book.funds[2].value, book.cash[1], book.cash[2]), (10 ** 9 + 6, 1 - 10 ** 9, -999))

    def test_the_highest_value(self):
        just = [buy(1, 1, 1), result(1, 4), buy(2, 2, 10 ** 9), result(2, MOST_VALUE - 5 - 10 ** 9)]
        self.assertEqual(run(just + joined() + [result(2, 0)])[-2:], [[1, 0, 5000], [MOST_VALUE]])
        self.assert_refused(just + [result(1, 1)] + joined()[:-1], effect(1), -8)

    def test_the_highest_value_with_cash_gone(self):
        full = [buy(2, 3, 1), sell(2, 3, 999990), result(2, MOST_VALUE - 1)]
        self.assertEqual(run(full + [buy(1, 1, 7)] + joined() + [result(2, 0)])[-2:], [[1, 7, 0], [MOST_VALUE]])
        halves = full + [buy(1, 1, 7), transfer(1, 1, 2, 3500000)]
        self.assert_refused(halves + joined()[:-1], effect(1), -8)
        self.assertEqual(run(halves + [result(2, -1)] + joined() + [result(2, 0)])[-2:], [[1, 6, 0], [MOST_VALUE]])

    def test_the_most_units(self):
        full = [buy(2, 3, 10 ** 9), result(2, 1 - 10 ** 9), buy(2, 4, 999)]
        self.assert_refused(full + [buy(1, 1, 1)] + joined()[:-1], effect(1), -8)
        room = full + [sell(2, 3, MILLION), result(2, MOST_VALUE - 1001), buy(1, 1, 1)]
        self.assertEqual(last(room + joined()), [1, 0, MILLION])
        self.assertEqual(sum([units for units, cost in holdings(book_after(room + joined()), 2).values()]), MOST_UNITS)
        narrow = full + [sell(2, 3, MILLION - 1), result(2, MOST_VALUE - 1001), buy(1, 1, 1)]
        self.assert_refused(narrow + joined()[:-1], effect(1), -8)

    def test_the_most_units_into_a_fund_without_units(self):
        full = [buy(1, 1, 10 ** 9), result(1, 1 - 10 ** 9), buy(1, 2, 999)]
        self.assertEqual(last(full + joined()), [1, 0, MOST_UNITS])

    def test_there_and_back(self):
        calls = TWO + joined() + passed(2, JOIN, 2, 1, 0, 2) + [effect(2), sell(1, 1, 4000000)]
        self.assertEqual(run(calls)[-2:], [[1, 0, 7000000], [4, 4]])


class Divide(Asking, unittest.TestCase):

    def divided_in(self, part):
        book = book_after(TWO + divided(part))
        return (book.funds[1].value, holdings(book, 1), book.funds[2].value, holdings(book, 2))

    def test_in_between(self):
        self.assertEqual(last(TWO + divided(500000)), [2, 3])
        self.assertEqual(self.divided_in(500000),
                         (4, {1: (4000000, 2), 2: (3000000, 2)}, 3, {1: (4000000, 2), 2: (3000000, 1)}))

    def test_part_of_nothing(self):
        self.assertEqual(last(TWO + divided(0)), [2, 0])
        self.assertEqual(self.divided_in(0),
                         (7, {1: (4000000, 4), 2: (3000000, 3)}, 0, {1: (4000000, 0), 2: (3000000, 0)}))
        self.assertEqual(run(TWO + divided(0) + [buy(2, 3, 1), sell(2, 1, 4000000)])[6:], [[-9], [0, 0]])

    def test_part_of_all(self):
        self.assertEqual(last(TWO + divided(MILLION)), [2, 7])
        self.assertEqual(self.divided_in(MILLION),
                         (0, {1: (4000000, 0), 2: (3000000, 0)}, 7, {1: (4000000, 4), 2: (3000000, 3)}))

    def test_rounded_down(self):
        for value, part, other in ((999999, 1, 0), (1000000, 1, 1), (1000001, 999999, 999999), (1, 999999, 0)):
            self.assertEqual(last([buy(1, 1, 1), result(1, value - 1)] + divided(part)), [2, other])
        full = [buy(1, 1, 1), result(1, MOST_VALUE - 1)]
        self.assertEqual(last(full + divided(999999)), [2, 999999000000])
        self.assertEqual(last(full + divided(1) + [result(1, 0)]), [999999000000])

    def test_cash_stays(self):
        self.assertEqual(cash(book_after(TWO + divided(300000))), {1: -4, 2: -3})

    def test_of_a_fund_without_value(self):
        calls = TWO + [result(1, -7)] + divided(500000)
        self.assertEqual(run(calls + [sell(2, 1, 4000000), sell(1, 1, 4000000)])[-3:], [[2, 0], [0, 2], [0, 2]])

    def test_the_halves_are_apart(self):
        calls = TWO + divided(500000) + [sell(1, 1, 4000000), sell(2, 1, 1), buy(2, 1, 3), sell(1, 1, 1)]
        self.assertEqual(run(calls)[6:], [[2, 2], [0, 0], [6999999], [-4]])

    def test_into_a_fund_with_units(self):
        before = TWO + [buy(2, 3, 1)] + divided(500000)[:-1]
        self.assert_refused(before, effect(1), -6)
        self.assert_refused(before + [result(2, -1)], effect(1), -6)
        self.assert_refused(before + [sell(2, 3, 999999)], effect(1), -6)
        self.assertEqual(last(before + [sell(2, 3, 1000000), effect(1)]), [2, 3])

    def test_and_joined_again(self):
        calls = TWO + divided(500000) + passed(2, JOIN, 2, 1, 0, 1) + [effect(2)]
        # Both funds have 7000000 units, the one of 3 coins, the other of 4: a unit brings 3/4 of one.
        self.assertEqual(last(calls), [1, 0, 5250000])
        self.assertEqual(holdings(book_after(calls), 1), {1: (7000000, 4), 2: (5250000, 3)})
        self.assertEqual(book_after(calls).funds[1].value, 7)


class Close(Asking, unittest.TestCase):

    def closed(self):
        return TWO + passed(1, CLOSE, 1, 0, 0, 1) + [effect(1)]

    def test_the_fund_is_closing(self):
        self.assertEqual(last(self.closed()), [3])
        book = book_after(self.closed())
        self.assertEqual((book.funds[1].closing, book.funds[1].declared, book.funds[1].value), (True, 0, 7))
        self.assertEqual([holding.paid for holding in book.funds[1].holdings.values()], [0, 0])
        self.assertEqual((holdings(book, 1), cash(book)), ({1: (4000000, 4), 2: (3000000, 3)}, {1: -4, 2: -3}))

    def test_units_stay_where_they_are(self):
        self.assertEqual(run(self.closed() + [buy(1, 1, 1), sell(1, 1, 1), transfer(1, 1, 2, 1), result(1, 2)])[6:],
                         [[-6], [-6], [-6], [9]])

    def test_other_funds_are_not(self):
        self.assertEqual(run(self.closed() + [buy(2, 1, 1), sell(2, 1, 1000000)])[6:], [[1000000], [1, 1]])

    def test_schemes_may_still_be_voted_on(self):
        calls = self.closed() + passed(2, JOIN, 1, 2, 0, 2) + [effect(2)]
        self.assertEqual(run(calls)[6:], [[2], [3000000], [1, 3000000, 3000000, 7000000], [-6]])

    def test_without_value(self):
        calls = TWO + [result(1, -7)] + passed(1, CLOSE, 1, 0, 0, 1) + [effect(1)]
        self.assertEqual(last(calls), [3])


if __name__ == "__main__":
    unittest.main()
