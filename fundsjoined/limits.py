"""The bounds of the numbers, the refusals, and the questions whether a number is within its range."""

FUNDS = 6
HOLDERS = 20
MOST_SCHEMES = 20
HIGHEST_SCHEME_NUMBER = 1000000
MOST_VALUE = 1000000000000
MOST_UNITS = 1000000000000000000
MOST_BOUGHT_AT_ONCE = 1000000000
MILLION = 1000000

OUT_OF_RANGE = -1
NOT_THERE = -4
WRONG_STATE = -5
NOT_ALLOWED = -6
WRONG_AMOUNT = -7
NO_ROOM = -8
NOTHING_TO_RECKON_BY = -9


def within(number, lowest, highest):
    return lowest <= number and number <= highest


def is_fund(number):
    return within(number, 1, FUNDS)


def is_holder(number):
    return within(number, 1, HOLDERS)


def is_amount_of_units(number):
    return within(number, 1, MOST_UNITS)


def is_millionths(number):
    return within(number, 0, MILLION)
