import unittest

from fundsjoined.schemes import answers
from tests.calls import CLOSE, JOIN, begin, book_after, buy, count, effect, flat, plain, propose, proxy, result, run
from tests.calls import sell, transfer, vote


class Interface(unittest.TestCase):

    def test_each_answer_stands_behind_how_many_numbers_it_has(self):
        calls = [0,
                 1, 1, 1, 5,
                 2, 1, 1, 2000000,
                 3, 1, 1, 2, 1000000,
                 4, 1, 7,
                 5, 1, 1, 2, 0, 500000, 500000,
                 6, 1, 1, 1,
                 7, 1, 2, 1,
                 8, 1,
                 9, 1]
        self.assertEqual(answers(calls), [1, 0,
                                          1, 5000000,
                                          2, 2, 2,
                                          1, 1,
                                          1, 10,
                                          1, 1,
                                          1, 2000000,
                                          1, 0,
                                          4, 1, 3000000, 3000000, 3000000,
                                          3, 1, 0, 3000000])

    def test_a_refusal_is_its_number_alone(self):
        self.assertEqual(answers([2, 1, 1, 1, 9, 1, 4, 1, 0]), [1, -4, 1, -4, 1, -9])

    def test_one_call_alone(self):
        self.assertEqual(answers([0]), [1, 0])
        self.assertEqual(answers([1, 6, 20, 1]), [1, 1000000])

    def test_the_list_is_new_at_its_beginning_without_begin(self):
        self.assertEqual(answers([8, 1]), [1, -4])

    def test_what_is_handed_in_stays_and_nothing_is_kept(self):
        calls = flat([buy(1, 1, 5), buy(2, 2, 3), result(1, 4), propose(JOIN, 1, 2), vote(1, 1, 1), proxy(1, 2, 1),
                      count(1), effect(1), sell(2, 1, 7), transfer(2, 1, 3, 9), buy(1, 1, -1), begin(), buy(1, 1, 2)])
        copy = list(calls)
        first = answers(calls)
        self.assertEqual(calls, copy)
        self.assertEqual(answers(calls), first)
        again = list(first)
        first.append(0)
        self.assertEqual(answers(calls), again)

    def test_what_is_given_back_is_a_list_of_ints(self):
        given = answers(flat([buy(1, 1, 1), propose(CLOSE, 1, 0), vote(1, 1, 1), count(1), effect(1)]))
        self.assertIs(type(given), list)
        for number in given:
            self.assertIs(type(number), int)

    def test_the_longest_list(self):
        calls = [buy(1, 1, 1)] * 400
        self.assertEqual(run(calls), [[1000000]] * 400)

    def test_a_call_that_there_is_not_fails(self):
        for number in (-1, 20, 99):
            with self.assertRaises(KeyError):
                answers([number, 1, 1, 1, 1, 1, 1])


class Begin(unittest.TestCase):

    def test_answers_zero(self):
        self.assertEqual(run([begin(), begin()]), [[0], [0]])

    def test_in_the_midst_all_is_new(self):
        used = [buy(1, 1, 5), buy(2, 2, 3), result(1, 4), propose(CLOSE, 2, 0), vote(1, 2, 1), count(1), effect(1),
                propose(JOIN, 1, 3), vote(2, 1, 1)]
        after = [sell(1, 1, 1), result(1, 0), buy(2, 2, 1), count(1), propose(JOIN, 1, 2), count(1), effect(1)]
        self.assertEqual(run(used + [begin()] + after)[len(used) + 1:],
                         [[-4], [-9], [1000000], [-4], [1], [2, 0, 0, 0], [-5]])
        self.assertEqual(run(used + [begin()] + after)[len(used) + 1:], run(after))

    def test_what_is_new(self):
        fund = {"value": 0, "holdings": {}, "closing": False, "declared": 0}
        new = {"funds": {f: fund for f in range(1, 7)}, "cash": {h: 0 for h in range(1, 21)}, "schemes": {}}
        self.assertEqual(plain(book_after([])), new)
        self.assertEqual(plain(book_after([buy(1, 1, 5), propose(CLOSE, 1, 0), begin()])), new)
        self.assertEqual(plain(book_after([buy(1, 1, 5)]).funds[1].holdings),
                         {1: {"units": 5000000, "cost": 5, "paid": 0}})

    def test_schemes_are_numbered_from_one_again(self):
        many = [propose(CLOSE, 1, 0)] * 20
        self.assertEqual(run(many + [propose(CLOSE, 1, 0), begin(), propose(CLOSE, 1, 0)])[20:], [[-8], [0], [1]])


if __name__ == "__main__":
    unittest.main()
