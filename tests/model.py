"""The words of the document once more, by exact fractions and without regard to speed: what the program is held to."""

from fractions import Fraction
from math import floor


class Model:

    def __init__(self):
        self.value = [0] * 7
        self.units = [[0] * 21 for f in range(7)]
        self.cost = [[0] * 21 for f in range(7)]
        self.paid = [[0] * 21 for f in range(7)]
        self.closing = [False] * 7
        self.declared = [0] * 7
        self.cash = [0] * 21
        self.schemes = []

    def all_units(self, f):
        return sum(self.units[f])

    def worth(self, f):
        """The worth of one unit."""
        return Fraction(self.value[f], self.all_units(f))

    def buy(self, f, h, m):
        if f not in range(1, 7) or h not in range(1, 21) or m not in range(1, 10 ** 9 + 1):
            return [-1]
        if self.closing[f]:
            return [-6]
        if self.all_units(f) and not self.value[f]:
            return [-9]
        units = floor(m / self.worth(f)) if self.all_units(f) else m * 10 ** 6
        if units < 1:
            return [-7]
        if self.value[f] + m > 10 ** 12 or self.all_units(f) + units > 10 ** 18:
            return [-8]
        self.units[f][h] += units
        self.cost[f][h] += m
        self.value[f] += m
        self.cash[h] -= m
        return [units]

    def sell(self, f, h, u):
        if f not in range(1, 7) or h not in range(1, 21) or u not in range(1, 10 ** 18 + 1):
            return [-1]
        if self.closing[f]:
            return [-6]
        if not self.units[f][h]:
            return [-4]
        if self.units[f][h] < u:
            return [-7]
        money = floor(self.worth(f) * u)
        cost = floor(Fraction(self.cost[f][h], self.units[f][h]) * u)
        self.units[f][h] -= u
        self.cost[f][h] -= cost
        self.value[f] -= money
        self.cash[h] += money
        return [money, cost]

    def transfer(self, f, h, g, u):
        if g not in range(1, 21):
            return [-1]
        if h == g:
            was = ([list(row) for row in self.units], [list(row) for row in self.cost])
            value, cash = list(self.value), list(self.cash)
            answer = self.sell(f, h, u)
            (self.units, self.cost), self.value, self.cash = was, value, cash
            return answer if answer[0] < 0 else [-6]
        answer = self.sell(f, h, u)
        if answer[0] < 0:
            return answer
        money, cost = answer
        self.value[f] += money
        self.cash[h] -= money
        self.units[f][g] += u
        self.cost[f][g] += cost
        return [cost]

    def result(self, f, d):
        if f not in range(1, 7) or abs(d) > 10 ** 12:
            return [-1]
        if not self.all_units(f):
            return [-9]
        if self.value[f] + d < max(0, self.declared[f] - sum(self.paid[f])):
            return [-7]
        if self.value[f] + d > 10 ** 12:
            return [-8]
        self.value[f] += d
        return [self.value[f]]

    def propose(self, kind, a, b, part, quorum, need):
        if kind not in (1, 2, 3) or a not in range(1, 7) or b not in range(7):
            return [-1]
        if not all(0 <= millionths <= 10 ** 6 for millionths in (part, quorum, need)):
            return [-1]
        if (b != 0) if kind == 3 else b in (0, a):
            return [-6]
        if len(self.schemes) == 20:
            return [-8]
        self.schemes.append({"kind": kind, "a": a, "b": b, "part": part, "quorum": quorum, "need": need,
                             "votes": {}, "names": {}, "state": 0})
        return [len(self.schemes)]

    def missing(self, n, *states):
        if n < 1 or n > 10 ** 6:
            return [-1]
        if n > len(self.schemes):
            return [-4]
        return [-5] if self.schemes[n - 1]["state"] not in states else []

    def vote(self, n, h, pro):
        if h not in range(1, 21) or pro not in (0, 1):
            return [-1]
        if self.missing(n, 0):
            return self.missing(n, 0)
        self.schemes[n - 1]["votes"][h] = pro
        return [self.units[self.schemes[n - 1]["a"]][h]]

    def proxy(self, n, h, g):
        if h not in range(1, 21) or g not in range(1, 21):
            return [-1]
        if self.missing(n, 0):
            return self.missing(n, 0)
        if h == g:
            return [-6]
        self.schemes[n - 1]["names"][h] = g
        return [0]

    def who_speaks(self, scheme, h, met):
        if h in scheme["votes"]:
            return h
        if h in met or h not in scheme["names"]:
            return 0
        return self.who_speaks(scheme, scheme["names"][h], met | {h})

    def tally(self, n):
        if self.missing(n, 0, 1, 2, 3):
            return self.missing(n, 0, 1, 2, 3)
        scheme = self.schemes[n - 1]
        units = self.units[scheme["a"]]
        said = [scheme["votes"].get(self.who_speaks(scheme, h, frozenset())) for h in range(21)]
        cast = sum(units[h] for h in range(21) if said[h] is not None)
        pro = sum(units[h] for h in range(21) if said[h] == 1)
        passes = pro > 0 and Fraction(cast, sum(units)) >= Fraction(scheme["quorum"], 10 ** 6)
        passes = passes and Fraction(pro, cast) >= Fraction(scheme["need"], 10 ** 6)
        return [1 if passes else 2, cast, pro, sum(units)]

    def count(self, n):
        if self.missing(n, 0):
            return self.missing(n, 0)
        answer = self.tally(n)
        self.schemes[n - 1]["state"] = answer[0]
        return answer

    def effect(self, n):
        if self.missing(n, 1):
            return self.missing(n, 1)
        scheme = self.schemes[n - 1]
        a, b = scheme["a"], scheme["b"]
        if self.closing[a] or not self.all_units(a):
            return [-6]
        if scheme["kind"] == 3:
            self.closing[a] = True
            answer = [3]
        elif self.closing[b]:
            return [-6]
        elif scheme["kind"] == 2:
            answer = self.divide(a, b, Fraction(scheme["part"], 10 ** 6))
        else:
            answer = self.join(a, b)
        if answer[0] > 0:
            scheme["state"] = 3
        return answer

    def divide(self, a, b, part):
        if self.all_units(b):
            return [-6]
        self.value[b] = floor(self.value[a] * part)
        self.value[a] -= self.value[b]
        self.units[b] = list(self.units[a])
        self.cost[b] = [floor(cost * part) for cost in self.cost[a]]
        self.cost[a] = [cost - gone for cost, gone in zip(self.cost[a], self.cost[b])]
        return [2, self.value[b]]

    def brought(self, a, b, h):
        if not self.all_units(b):
            return self.units[a][h], 0
        worth = self.worth(a) * self.units[a][h]
        new = floor(worth / self.worth(b))
        return new, floor(worth - new * self.worth(b))

    def join(self, a, b):
        if self.all_units(b) and not self.value[b]:
            return [-9]
        new, coins = zip(*[self.brought(a, b, h) for h in range(21)])
        value = self.value[a] + self.value[b] - sum(coins)
        if value > 10 ** 12 or self.all_units(b) + sum(new) > 10 ** 18:
            return [-8]
        for h in range(21):
            self.units[b][h] += new[h]
            self.cash[h] += coins[h]
            self.cost[b][h] += max(self.cost[a][h] - coins[h], 0) if self.units[b][h] else 0
        self.value[a], self.value[b] = 0, value
        self.units[a], self.cost[a] = [0] * 21, [0] * 21
        return [1, sum(coins), sum(new)]

    def pay_up_to(self, f, shares):
        before = sum(self.paid[f])
        for h in range(21):
            self.cash[h] += shares[h] - self.paid[f][h]
        self.paid[f] = shares
        self.value[f] -= sum(shares) - before
        return [sum(shares) - before]

    def pay(self, f, m):
        if f not in range(1, 7) or m not in range(1, 10 ** 12 + 1):
            return [-1]
        if not self.closing[f]:
            return [-6]
        if self.declared[f] + m - sum(self.paid[f]) > self.value[f]:
            return [-7]
        self.declared[f] += m
        each = Fraction(self.declared[f], self.all_units(f))
        return self.pay_up_to(f, [floor(each * units) for units in self.units[f]])

    def last(self, f):
        if f not in range(1, 7):
            return [-1]
        if not self.closing[f]:
            return [-6]
        coins = self.value[f] + sum(self.paid[f])
        exact = [Fraction(coins * units, self.all_units(f)) for units in self.units[f]]
        shares = [floor(share) for share in exact]
        open_yet = [h for h in range(1, 21) if self.units[f][h]]
        while sum(shares) < coins:
            lucky = max(open_yet, key=lambda h: (exact[h] % 1, -h))
            open_yet.remove(lucky)
            shares[lucky] += 1
        answer = self.pay_up_to(f, shares)
        self.units[f], self.cost[f], self.paid[f] = [0] * 21, [0] * 21, [0] * 21
        self.closing[f], self.declared[f] = False, 0
        return answer

    def fund(self, f):
        if f not in range(1, 7):
            return [-1]
        held = len([units for units in self.units[f] if units])
        return [self.value[f], self.all_units(f), held, int(self.closing[f]), self.declared[f], sum(self.paid[f])]

    def holding(self, f, h):
        if f not in range(1, 7) or h not in range(1, 21):
            return [-1]
        if not self.units[f][h]:
            return [0, 0, 0, 0]
        units = self.units[f][h]
        return [units, self.cost[f][h], self.paid[f][h], floor(self.worth(f) * units)]

    def cash_of(self, h):
        return [0, self.cash[h]] if h in range(1, 21) else [-1]

    def holders(self, f):
        if f not in range(1, 7):
            return [-1]
        held = [[h, units] for h, units in enumerate(self.units[f]) if units]
        return sum(held, [len(held)])

    def scheme(self, n):
        if self.missing(n, 0, 1, 2, 3):
            return self.missing(n, 0, 1, 2, 3)
        scheme = self.schemes[n - 1]
        told = [scheme[key] for key in ("kind", "a", "b", "part", "quorum", "need", "state")]
        return told + [len(scheme["votes"]), len(scheme["names"])]

    def speaker(self, n, h):
        if h not in range(1, 21):
            return [-1]
        if self.missing(n, 0, 1, 2, 3):
            return self.missing(n, 0, 1, 2, 3)
        return [self.who_speaks(self.schemes[n - 1], h, frozenset())]

    def offer(self, a, b, h):
        if a not in range(1, 7) or b not in range(1, 7) or h not in range(1, 21):
            return [-1]
        if a == b:
            return [-6]
        if not self.all_units(a) or self.all_units(b) and not self.value[b]:
            return [-9]
        return list(self.brought(a, b, h))

    def answer(self, call):
        names = ("begin", "buy", "sell", "transfer", "result", "propose", "vote", "proxy", "count", "effect",
                 "pay", "last", "fund", "holding", "cash_of", "holders", "scheme", "tally", "speaker", "offer")
        if call == [0]:
            self.__init__()
            return [0]
        return getattr(self, names[call[0]])(*call[1:])
