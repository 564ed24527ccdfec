import unittest

from fundsjoined.schemes import answers
from tests.calls import CLOSE, JOIN, begin, book_after, buy, cash_of, count, effect, flat, fund, holders, holding
from tests.calls import last_payment, offer, pay, plain, propose, proxy, result, run, scheme, sell, speaker, tally
from tests.calls import transfer, vote


class Fixed(list):
    """A list that can't be changed."""

    def refuse(self, *given):
        raise AssertionError("the list that was handed in is changed")

    append = extend = insert = pop = remove = clear = sort = reverse = refuse
    __setitem__ = __delitem__ = __iadd__ = __imul__ = refuse


class Interface(unittest.TestCase):

    def test_each_answer_stands_behind_how_many_numbers_it_has(self):
        calls = [0,
                 1, 1, 1, 5,
                 2, 1, 1, 2000000,
                 3, 1, 1, 2, 1000000,
                 4, 1, 7,
                 5, 1, 1, 2, 0, 500000, 500000,
                 6, 1, 1, 1,
                 7, 1, 2, 1,
                 8, 1,
                 9, 1]
        self.assertEqual(answers(calls), [1, 0,
                                          1, 5000000,
                                          2, 2, 2,
                                          1, 1,
                                          1, 10,
                                          1, 1,
                                          1, 2000000,
                                          1, 0,
                                          4, 1, 3000000, 3000000, 3000000,
                                          3, 1, 0, 3000000])

    def test_answers_of_the_later_calls(self):
        calls = [1, 1, 2, 5,
                 1, 1, 1, 2,
                 5, 3, 1, 0, 0, 0, 0,
                 6, 1, 2, 1,
                 8, 1,
                 19, 1, 2, 1,
                 9, 1,
                 10, 1, 4,
                 12, 1,
                 13, 1, 2,
                 14, 2,
                 15, 1,
                 16, 1,
                 17, 1,
                 18, 1, 2,
                 11, 1]
        self.assertEqual(answers(calls), [1, 5000000,
                                          1, 2000000,
                                          1, 1,
                                          1, 5000000,
                                          4, 1, 5000000, 5000000, 7000000,
                                          2, 2000000, 0,
                                          1, 3,
                                          1, 3,
                                          6, 4, 7000000, 2, 1, 4, 3,
                                          4, 5000000, 5, 2, 2,
                                          2, 0, -3,
                                          5, 2, 1, 2000000, 2, 5000000,
                                          9, 3, 1, 0, 0, 0, 0, 3, 1, 0,
                                          4, 1, 5000000, 5000000, 7000000,
                                          1, 2,
                                          1, 4])

    def test_a_refusal_is_its_number_alone(self):
        self.assertEqual(answers([2, 1, 1, 1, 9, 1, 4, 1, 0]), [1, -4, 1, -4, 1, -9])
        self.assertEqual(answers([10, 1, 1, 11, 1, 12, 0, 13, 1, 0, 14, 0, 15, 7, 16, 1, 17, 1, 18, 1, 1, 19, 1, 1, 1]),
                         [1, -6, 1, -6, 1, -1, 1, -1, 1, -1, 1, -1, 1, -4, 1, -4, 1, -4, 1, -6])

    def test_one_call_alone(self):
        self.assertEqual(answers([0]), [1, 0])
        self.assertEqual(answers([1, 6, 20, 1]), [1, 1000000])

    def test_the_list_is_new_at_its_beginning_without_begin(self):
        self.assertEqual(answers([8, 1]), [1, -4])

    def test_what_is_handed_in_stays_and_nothing_is_kept(self):
        calls = flat([buy(1, 1, 5), buy(2, 2, 3), result(1, 4), propose(JOIN, 1, 2), vote(1, 1, 1), proxy(1, 2, 1),
                      count(1), effect(1), sell(2, 1, 7), transfer(2, 1, 3, 9), buy(1, 1, -1), begin(), buy(1, 1, 2)])
        calls += flat([pay(2, 1), last_payment(2), fund(1), holding(1, 1), cash_of(1), holders(1), propose(CLOSE, 1, 0),
                       vote(1, 1, 1), scheme(1), tally(1), speaker(1, 1), offer(1, 2, 1), count(1), effect(1),
                       pay(1, 1), last_payment(1), fund(1)])
        copy = list(calls)
        first = answers(calls)
        self.assertEqual(calls, copy)
        self.assertEqual(answers(calls), first)
        again = list(first)
        first.append(0)
        self.assertEqual(answers(calls), again)

    def test_what_is_given_back_is_a_list_of_ints(self):
        given = answers(flat([buy(1, 1, 1), propose(CLOSE, 1, 0), vote(1, 1, 1), count(1), offer(1, 2, 1), fund(1),
                              effect(1), pay(1, 1), fund(1), holding(1, 1), cash_of(1), holders(1), scheme(1), tally(1),
                              speaker(1, 1), last_payment(1), fund(1), offer(1, 2, 1)]))
        self.assertIs(type(given), list)
        for number in given:
            self.assertIs(type(number), int)

    def test_the_longest_list(self):
        calls = [buy(1, 1, 1)] * 400
        self.assertEqual(run(calls), [[1000000]] * 400)
        calls = [buy(1, h, 1) for h in range(1, 21)] + [holders(1)] * 180 + [propose(JOIN, 1, 1)] * 200
        everybody = [20] + [number for h in range(1, 21) for number in (h, 1000000)]
        self.assertEqual(run(calls), [[1000000]] * 20 + [everybody] * 180 + [[-6]] * 200)

    def test_a_list_that_refuses_each_change(self):
        """A list that can't be changed, not for a while either, is answered as any other."""
        calls = flat([buy(1, 1, 5), buy(2, 2, 3), propose(CLOSE, 1, 0), vote(1, 1, 1), count(1), effect(1), pay(1, 2),
                      last_payment(1), buy(1, 1, 1), propose(JOIN, 1, 2), vote(2, 1, 1), count(2), offer(1, 2, 1),
                      effect(2), holders(2), begin(), cash_of(1)])
        self.assertEqual(answers(Fixed(calls)), answers(calls))

    def test_a_call_that_there_is_not_fails(self):
        for number in (-1, 20, 99):
            with self.assertRaises(KeyError):
                answers([number, 1, 1, 1, 1, 1, 1])


class Begin(unittest.TestCase):

    def test_answers_zero(self):
        self.assertEqual(run([begin(), begin()]), [[0], [0]])

    def test_in_the_midst_all_is_new(self):
        used = [buy(1, 1, 5), buy(2, 2, 3), result(1, 4), propose(CLOSE, 2, 0), vote(1, 2, 1), count(1), effect(1),
                pay(2, 2), propose(JOIN, 1, 3), vote(2, 1, 1)]
        after = [sell(1, 1, 1), result(1, 0), fund(2), pay(2, 1), last_payment(2), buy(2, 2, 1), count(1),
                 propose(JOIN, 1, 2), count(1), effect(1), cash_of(2)]
        self.assertEqual(run(used + [begin()] + after)[len(used) + 1:],
                         [[-4], [-9], [0] * 6, [-6], [-6], [1000000], [-4], [1], [2, 0, 0, 0], [-5], [0, -1]])
        self.assertEqual(run(used + [begin()] + after)[len(used) + 1:], run(after))

    def test_what_is_new(self):
        fund = {"value": 0, "holdings": {}, "closing": False, "declared": 0}
        new = {"funds": {f: fund for f in range(1, 7)}, "cash": {h: 0 for h in range(1, 21)}, "schemes": {}}
        self.assertEqual(plain(book_after([])), new)
        self.assertEqual(plain(book_after([buy(1, 1, 5), propose(CLOSE, 1, 0), begin()])), new)
        self.assertEqual(plain(book_after([buy(1, 1, 5)]).funds[1].holdings),
                         {1: {"units": 5000000, "cost": 5, "paid": 0}})

    def test_schemes_are_numbered_from_one_again(self):
        many = [propose(CLOSE, 1, 0)] * 20
        self.assertEqual(run(many + [propose(CLOSE, 1, 0), begin(), propose(CLOSE, 1, 0)])[20:], [[-8], [0], [1]])


if __name__ == "__main__":
    unittest.main()
