"""The interface: a list of calls goes in, the list of what they answer comes out."""

from fundsjoined.asking import tell_cash, tell_fund, tell_holders, tell_holding
from fundsjoined.asking import tell_offer, tell_scheme, tell_speaker, tell_tally
from fundsjoined.book import Book
from fundsjoined.effects import take_effect
from fundsjoined.payments import pay, pay_last
from fundsjoined.trading import buy, result, sell, transfer
from fundsjoined.voting import count_votes, propose, proxy, vote

BEGIN = 0
BUY = 1
SELL = 2
TRANSFER = 3
RESULT = 4
PROPOSE = 5
VOTE = 6
PROXY = 7
COUNT = 8
EFFECT = 9
PAY = 10
LAST = 11
FUND = 12
HOLDING = 13
CASH = 14
HOLDERS = 15
SCHEME = 16
TALLY = 17
SPEAKER = 18

# By the call's number. A dict, for a number below 0 must not be taken for one counted from the end.
HOW_MANY_NUMBERS = {0: 0, 1: 3, 2: 3, 3: 4, 4: 2, 5: 6, 6: 3, 7: 3, 8: 1, 9: 1,
                    10: 2, 11: 1, 12: 1, 13: 2, 14: 1, 15: 1, 16: 1, 17: 1, 18: 2, 19: 3}


def answer_in_trading(book, call, n):
    if call == BUY:
        return buy(book, n[0], n[1], n[2])
    if call == SELL:
        return sell(book, n[0], n[1], n[2])
    if call == TRANSFER:
        return transfer(book, n[0], n[1], n[2], n[3])
    return result(book, n[0], n[1])


def answer_on_schemes(book, call, n):
    if call == PROPOSE:
        return propose(book, n[0], n[1], n[2], n[3], n[4], n[5])
    if call == VOTE:
        return vote(book, n[0], n[1], n[2])
    if call == PROXY:
        return proxy(book, n[0], n[1], n[2])
    if call == COUNT:
        return count_votes(book, n[0])
    return take_effect(book, n[0])


def answer_in_closing(book, call, n):
    if call == PAY:
        return pay(book, n[0], n[1])
    return pay_last(book, n[0])


def answer_about_funds(book, call, n):
    if call == FUND:
        return tell_fund(book, n[0])
    if call == HOLDING:
        return tell_holding(book, n[0], n[1])
    if call == CASH:
        return tell_cash(book, n[0])
    return tell_holders(book, n[0])


def answer_about_schemes(book, call, n):
    if call == SCHEME:
        return tell_scheme(book, n[0])
    if call == TALLY:
        return tell_tally(book, n[0])
    if call == SPEAKER:
        return tell_speaker(book, n[0], n[1])
    return tell_offer(book, n[0], n[1], n[2])


def answer_of(book, call, numbers):
    """What one call answers; begin is not among them, as it makes another book."""
    if call <= RESULT:
        return answer_in_trading(book, call, numbers)
    if call <= EFFECT:
        return answer_on_schemes(book, call, numbers)
    if call <= LAST:
        return answer_in_closing(book, call, numbers)
    if call <= HOLDERS:
        return answer_about_funds(book, call, numbers)
    return answer_about_schemes(book, call, numbers)


def answers(calls):
    book = Book()
    given = []
    place = 0
    while place < len(calls):
        call = calls[place]
        end = place + 1 + HOW_MANY_NUMBERS[call]
        if call == BEGIN:
            book = Book()
            answer = [0]
        else:
            answer = answer_of(book, call, calls[place + 1:end])
        given.append(len(answer))
        given.extend(answer)
        place = end
    return given
