import unittest

from tests.calls import CLOSE, HIGHEST, LOWEST, MILLION, MOST_UNITS, MOST_VALUE, Asking
from tests.calls import book_after, buy, cash, effect, holdings, last, passed, result, run, sell, transfer

# Fund 1 with one unit worth two coins.
ONE_UNIT = [buy(1, 1, 1), sell(1, 1, 999999), result(1, 1)]
# Fund 1 with units, and value 0.
WORTHLESS = [buy(1, 1, 1), result(1, -1)]
# Fund 1 with the most units and 1000 coins.
FULL = [buy(1, 1, 10 ** 9), result(1, 1 - 10 ** 9), buy(1, 2, 999)]
CLOSING = [buy(1, 1, 4), buy(1, 2, 3)] + passed(1, CLOSE, 1, 0, 0, 1) + [effect(1)]


class Buy(Asking, unittest.TestCase):

    def test_the_first_units_are_a_million_for_a_coin(self):
        book = book_after([buy(1, 1, 5)])
        self.assertEqual(last([buy(1, 1, 5)]), [5000000])
        self.assertEqual((book.funds[1].value, holdings(book, 1), cash(book)), (5, {1: (5000000, 5)}, {1: -5}))

    def test_later_units_go_by_the_value_rounded_down(self):
        calls = [buy(1, 1, 5), buy(1, 2, 3), result(1, 1), buy(1, 3, 2), buy(1, 1, 11)]
        self.assertEqual(run(calls), [[5000000], [3000000], [9], [1777777], [9777777]])
        book = book_after(calls)
        self.assertEqual(holdings(book, 1), {1: (14777777, 16), 2: (3000000, 3), 3: (1777777, 2)})
        self.assertEqual((book.funds[1].value, cash(book)), (22, {1: -16, 2: -3, 3: -2}))

    def test_each_fund_by_itself(self):
        self.assertEqual(run([buy(1, 1, 2), result(1, 2), buy(1, 1, 1), buy(6, 1, 1)]),
                         [[2000000], [4], [500000], [1000000]])

    def test_when_all_is_sold_units_begin_anew(self):
        self.assertEqual(run([buy(1, 1, 3), result(1, 4), sell(1, 1, 3000000), buy(1, 2, 2)])[2:],
                         [[7, 3], [2000000]])

    def test_ranges(self):
        self.assert_range([], buy(1, 1, 1), 1, 1, 6)
        self.assert_range([], buy(1, 1, 1), 2, 1, 20)
        self.assert_range([], buy(1, 1, 1), 3, 1, 10 ** 9)

    def test_closing(self):
        self.assert_refused(CLOSING, buy(1, 1, 1), -6)
        self.assert_refused(CLOSING + [result(1, -7)], buy(1, 1, 1), -6)
        self.assert_refused(CLOSING, buy(1, 1, 0), -1)

    def test_units_without_value(self):
        self.assert_refused(WORTHLESS, buy(1, 1, 1), -9)
        self.assert_refused(WORTHLESS, buy(1, 2, 10 ** 9), -9)
        self.assert_refused(WORTHLESS + [sell(1, 1, 999999)], buy(1, 2, 1), -9)
        self.assertEqual(last(WORTHLESS + [result(1, 1), buy(1, 2, 1)]), [1000000])

    def test_no_unit_for_the_money(self):
        self.assert_refused(ONE_UNIT, buy(1, 2, 1), -7)
        self.assertEqual(last(ONE_UNIT + [buy(1, 2, 2)]), [1])
        self.assertEqual(last(ONE_UNIT + [buy(1, 2, 3)]), [1])

    def test_no_unit_is_told_ahead_of_no_room(self):
        full_value = [buy(1, 1, 1), result(1, MOST_VALUE - 1)]
        self.assert_refused(full_value, buy(1, 2, MILLION - 1), -7)
        self.assert_refused(full_value, buy(1, 2, MILLION), -8)

    def test_the_highest_value(self):
        below = [buy(1, 1, 1), result(1, MOST_VALUE - 1 - MILLION)]
        self.assertEqual(run(below + [buy(1, 2, MILLION), result(1, 0)])[2:], [[1], [MOST_VALUE]])
        self.assert_refused(below, buy(1, 2, MILLION + 1), -8)

    def test_the_most_units(self):
        self.assertEqual(run(FULL), [[10 ** 15], [1], [999 * 10 ** 15]])
        self.assert_refused(FULL, buy(1, 2, 1), -8)
        self.assert_refused(FULL[:2], buy(1, 2, 1000), -8)

    def test_just_the_most_units_and_the_highest_value(self):
        room = FULL + [sell(1, 1, MILLION), result(1, MOST_VALUE - 1001)]
        self.assertEqual(run(room)[3:], [[0, 1], [MOST_VALUE - 1]])
        self.assertEqual(run(room + [buy(1, 3, 1), result(1, 0)])[5:], [[MILLION], [MOST_VALUE]])
        narrow = FULL + [sell(1, 1, MILLION - 1), result(1, MOST_VALUE - 1001)]
        self.assert_refused(narrow, buy(1, 3, 1), -8)

    def test_products_beyond_64_bits(self):
        # 900 times 100000000000000000 units over 107 coins.
        calls = [buy(1, 1, 10 ** 9), result(1, 1 - 10 ** 9), buy(1, 2, 99), result(1, 7), buy(1, 2, 900)]
        self.assertEqual(run(calls)[2:], [[99 * 10 ** 15], [107], [841121495327102803]])


class Sell(Asking, unittest.TestCase):

    def test_money_and_cost_rounded_down(self):
        calls = [buy(1, 1, 5), buy(1, 2, 3), result(1, 2), sell(1, 1, 3000000)]
        self.assertEqual(last(calls), [3, 3])
        book = book_after(calls)
        self.assertEqual((book.funds[1].value, holdings(book, 1)), (7, {1: (2000000, 2), 2: (3000000, 3)}))
        self.assertEqual(cash(book), {1: -2, 2: -3})

    def test_the_parts_of_a_coin_stay(self):
        calls = [buy(1, 1, 2), sell(1, 1, 999999), sell(1, 1, 1), sell(1, 1, 500000), sell(1, 1, 500000)]
        self.assertEqual(run(calls)[1:], [[0, 0], [0, 0], [1, 1], [1, 1]])

    def test_the_last_unit_takes_the_holding_and_its_cost(self):
        calls = [buy(1, 1, 5), buy(1, 2, 3), sell(1, 1, 5000000)]
        self.assertEqual(last(calls), [5, 5])
        self.assertEqual(holdings(book_after(calls), 1), {2: (3000000, 3)})
        self.assertEqual(run(calls + [sell(1, 1, 1), buy(1, 1, 1), sell(1, 1, 1000000)])[3:],
                         [[-4], [1000000], [1, 1]])

    def test_when_all_units_are_sold_the_value_is_none(self):
        calls = [buy(1, 1, 5), result(1, 8), sell(1, 1, 5000000)]
        self.assertEqual(last(calls), [13, 5])
        book = book_after(calls)
        self.assertEqual((book.funds[1].value, book.funds[1].holdings, cash(book)), (0, {}, {1: 8}))

    def test_units_without_value_bring_nothing(self):
        self.assertEqual(last(WORTHLESS + [sell(1, 1, 1000000)]), [0, 1])

    def test_ranges(self):
        before = [buy(1, 1, 1)]
        self.assert_range(before, sell(1, 1, 1), 1, 1, 6)
        self.assert_range(before, sell(1, 1, 1), 2, 1, 20)
        self.assert_range(before, sell(1, 1, 1), 3, 1, MOST_UNITS)

    def test_refusals_in_their_order(self):
        self.assert_refused(CLOSING, sell(1, 1, 1), -6)
        self.assert_refused(CLOSING, sell(1, 3, 1), -6)
        self.assert_refused(CLOSING, sell(1, 1, MOST_UNITS), -6)
        self.assert_refused(CLOSING, sell(1, 1, 0), -1)
        self.assert_refused([], sell(1, 1, 1), -4)
        self.assert_refused([buy(1, 1, 1)], sell(1, 2, MOST_UNITS), -4)
        self.assert_refused([buy(1, 1, 1)], sell(2, 1, 1), -4)
        self.assert_refused([buy(1, 1, 1), buy(1, 2, 9)], sell(1, 1, 1000001), -7)
        self.assertEqual(last([buy(1, 1, 1), buy(1, 2, 9), sell(1, 1, 1000000)]), [1, 1])

    def test_products_beyond_64_bits(self):
        before = FULL + [transfer(1, 1, 2, 10 ** 15), result(1, MOST_VALUE - 1001)]
        self.assertEqual(last(before + [sell(1, 2, MOST_UNITS - 1)]), [MOST_VALUE - 2, 10 ** 9 + 998])
        self.assertEqual(last(before + [sell(1, 2, MOST_UNITS)]), [MOST_VALUE - 1, 10 ** 9 + 999])


class Transfer(Asking, unittest.TestCase):

    def test_units_and_their_cost_go_over(self):
        calls = [buy(1, 1, 5), result(1, 100), transfer(1, 1, 2, 1999999)]
        self.assertEqual(last(calls), [1])
        book = book_after(calls)
        self.assertEqual(holdings(book, 1), {1: (3000001, 4), 2: (1999999, 1)})
        self.assertEqual((book.funds[1].value, cash(book)), (105, {1: -5}))

    def test_to_one_who_has_units(self):
        calls = [buy(1, 1, 5), buy(1, 2, 3), transfer(1, 1, 2, 2000000)]
        self.assertEqual(holdings(book_after(calls), 1), {1: (3000000, 3), 2: (5000000, 5)})

    def test_all_units(self):
        calls = [buy(1, 1, 5), transfer(1, 1, 20, 5000000), sell(1, 1, 1), sell(1, 20, 5000000)]
        self.assertEqual(run(calls)[1:], [[5], [-4], [5, 5]])
        self.assertEqual(holdings(book_after(calls[:2]), 1), {20: (5000000, 5)})

    def test_the_cost_as_in_sell_beyond_64_bits(self):
        calls = FULL + [transfer(1, 2, 1, 999 * 10 ** 15 - 1)]
        self.assertEqual(last(calls), [998])
        self.assertEqual(holdings(book_after(calls), 1), {1: (MOST_UNITS - 1, 10 ** 9 + 998), 2: (1, 1)})

    def test_ranges(self):
        before = [buy(1, 1, 1)]
        self.assert_range(before, transfer(1, 1, 2, 1), 1, 1, 6)
        self.assert_range(before, transfer(1, 1, 2, 1), 2, 1, 20)
        self.assert_range(before, transfer(1, 1, 2, 1), 3, 1, 20)
        self.assert_range(before, transfer(1, 1, 2, 1), 4, 1, MOST_UNITS)

    def test_refusals_in_their_order(self):
        self.assert_refused(CLOSING, transfer(1, 1, 2, 1), -6)
        self.assert_refused(CLOSING, transfer(1, 3, 2, 1), -6)
        self.assert_refused(CLOSING, transfer(1, 1, 21, 1), -1)
        self.assert_refused([], transfer(1, 1, 2, 1), -4)
        self.assert_refused([], transfer(1, 1, 1, 1), -4)
        self.assert_refused([buy(1, 2, 5)], transfer(1, 1, 2, 1), -4)
        self.assert_refused([buy(1, 1, 1)], transfer(1, 1, 2, 1000001), -7)
        self.assert_refused([buy(1, 1, 1)], transfer(1, 1, 1, 1000001), -7)
        self.assert_refused([buy(1, 1, 1)], transfer(1, 1, 1, 1000000), -6)
        self.assertEqual(last([buy(1, 1, 1), transfer(1, 1, 2, 1000000)]), [1])


class Result(Asking, unittest.TestCase):

    def test_gains_and_losses(self):
        calls = [buy(1, 1, 5), result(1, 7), result(1, 0), result(1, -12), result(1, 3)]
        self.assertEqual(run(calls)[1:], [[12], [12], [0], [3]])
        book = book_after(calls)
        self.assertEqual((holdings(book, 1), cash(book)), ({1: (5000000, 5)}, {1: -5}))

    def test_ranges(self):
        self.assert_range([buy(1, 1, 1)], result(1, 0), 1, 1, 6)
        self.assert_range([buy(1, 1, 1)], result(1, 0), 2, -MOST_VALUE, MOST_VALUE)

    def test_the_ends_of_the_range(self):
        emptied = WORTHLESS + [result(1, MOST_VALUE), result(1, -MOST_VALUE)]
        self.assertEqual(run(emptied)[2:], [[MOST_VALUE], [0]])

    def test_no_units(self):
        for d in (0, 1, -1, MOST_VALUE, -MOST_VALUE):
            self.assert_refused([], result(1, d), -9)
        self.assert_refused([], result(1, LOWEST), -1)
        self.assert_refused([], result(7, HIGHEST), -1)

    def test_below_nothing(self):
        self.assert_refused([buy(1, 1, 5)], result(1, -6), -7)
        self.assertEqual(last([buy(1, 1, 5), result(1, -5)]), [0])

    def test_above_the_highest_value(self):
        self.assert_refused([buy(1, 1, 5)], result(1, MOST_VALUE - 4), -8)
        self.assertEqual(last([buy(1, 1, 5), result(1, MOST_VALUE - 5)]), [MOST_VALUE])

    def test_in_closing(self):
        self.assertEqual(run(CLOSING + [result(1, 3), result(1, -10)])[6:], [[10], [0]])
        self.assert_refused(CLOSING, result(1, -8), -7)
        self.assert_refused(CLOSING, result(1, MOST_VALUE), -8)


if __name__ == "__main__":
    unittest.main()
