"""What there is: funds with their holdings, the holders' cash, and the schemes."""

from fundsjoined.limits import FUNDS, HOLDERS

JOIN = 1
DIVIDE = 2
CLOSE = 3

STATE_OPEN = 0
STATE_PASSED = 1
STATE_FAILED = 2
STATE_DONE = 3


class Holding:
    """A holder's units of a fund, what they cost, and what has been paid for them in closing."""

    def __init__(self):
        self.units = 0
        self.cost = 0
        self.paid = 0


class Fund:
    """A value, and a holding for each holder who has units."""

    def __init__(self):
        self.value = 0
        self.holdings = {}
        self.closing = False
        self.declared = 0


class Scheme:
    """What is proposed, and who voted on it or named another."""

    def __init__(self, kind, fund_number, other_number, part, quorum, need):
        self.kind = kind
        self.fund_number = fund_number
        self.other_number = other_number
        self.part = part
        self.quorum = quorum
        self.need = need
        self.votes = {}
        self.proxies = {}
        self.state = STATE_OPEN


class Book:
    """All that the calls of one list work on; funds, cash and schemes stand by their numbers."""

    def __init__(self):
        self.funds = {}
        for number in range(1, FUNDS + 1):
            self.funds[number] = Fund()
        self.cash = {}
        for number in range(1, HOLDERS + 1):
            self.cash[number] = 0
        self.schemes = {}


def all_units(fund):
    return sum([holding.units for holding in fund.holdings.values()])


def all_paid(fund):
    return sum([holding.paid for holding in fund.holdings.values()])


def is_worthless(fund):
    """Whether the fund has units and value 0, so that nothing can be reckoned by its units' worth."""
    return fund.value == 0 and all_units(fund) > 0


def units_of(fund, holder):
    if holder not in fund.holdings:
        return 0
    return fund.holdings[holder].units


def add_to_holding(fund, holder, units, cost):
    if holder not in fund.holdings:
        # A holding without units isn't there, nor its cost: a join may bring no unit.
        if units == 0:
            return
        fund.holdings[holder] = Holding()
    holding = fund.holdings[holder]
    holding.units += units
    holding.cost += cost


def take_from_holding(fund, holder, units):
    """Takes units and their part of the cost; answers that part."""
    holding = fund.holdings[holder]
    cost = holding.cost * units // holding.units
    holding.units -= units
    holding.cost -= cost
    if holding.units == 0:
        fund.holdings.pop(holder)
    return cost
