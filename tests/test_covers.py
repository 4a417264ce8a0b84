import random
import unittest

from shadowpost.covers import least_choice

FAR = 10 ** 9


def members(bits):
    return {number for number in range(bits.bit_length()) if bits & 2 ** number}


def least_want(prices, covers, many, base, choice):
    met = set(members(base))
    for number in members(choice):
        met |= members(covers[number])
    return min(set(range(many)) - met, default=None)


def reckoned(prices, covers, many, base=0):
    choices = range(2 ** len(prices))
    paper = [least_want(prices, covers, many, base, choice) for choice in choices]
    priced = [(sum(prices[k] for k in members(c)), c) for c in choices if paper[c] is None]
    if not priced:
        return ("none", paper[-1])
    price, choice = min(priced)
    return ("choice", choice, price, paper)


class Case(unittest.TestCase):
    def check(self, wanted, prices, covers, many, *base):
        given, sets = list(prices), list(covers)
        told = least_choice(given, sets, many, *base)
        self.assertEqual((given, sets), (prices, covers))
        self.assertIs(type(told), tuple)
        self.assertEqual(told, wanted)
        self.assertEqual(told, reckoned(prices, covers, many, *base))
        numbers = told[1:3] + tuple(told[3]) if told[0] == "choice" else told[1:]
        self.assertTrue(all(number is None or type(number) is int for number in numbers), told)
        if told[0] == "choice":
            self.assertIs(type(told[3]), list)
            self.assertEqual(len(told[3]), 2 ** len(prices))


class Few(Case):
    def test_no_offers(self):
        self.check(("choice", 0, 0, [None]), [], [], 0)
        self.check(("none", 0), [], [], 1)
        self.check(("choice", 0, 0, [None]), [], [], 3, 0b111)
        self.check(("none", 1), [], [], 3, 0b101)

    def test_one_offer(self):
        self.check(("choice", 1, 5, [0, None]), [5], [0b11], 2)
        self.check(("none", 1), [5], [0b101], 3)
        self.check(("choice", 1, 5, [2, None]), [5], [0b100], 3, 0b011)
        self.check(("choice", 0, 0, [None, None]), [5], [0b100], 3, 0b111)

    def test_no_wants(self):
        self.check(("choice", 0, 0, [None] * 8), [1, 2, 3], [0, 0, 0], 0)
        self.check(("choice", 0, 0, [None] * 4), [0, 0], [0, 0], 0, 0)

    def test_wants_that_no_offer_meets(self):
        self.check(("none", 0), [1, 1], [0b110, 0b100], 3)
        self.check(("none", 2), [1, 1], [0b001, 0b010], 3)
        self.check(("none", 1), [1, 1], [0b001, 0b100], 4)


class Prices(Case):
    def test_one_that_meets_all_against_two_that_do(self):
        self.check(("choice", 0b100, 4, [0, 1, 0, None, None, None, None, None]), [2, 3, 4], [0b01, 0b10, 0b11], 2)
        self.check(("choice", 0b011, 5, [0, 1, 0, None, None, None, None, None]), [2, 3, 6], [0b01, 0b10, 0b11], 2)

    def test_of_one_price_the_least_number(self):
        self.check(("choice", 0b011, 5, [0, 1, 0, None, None, None, None, None]), [2, 3, 5], [0b01, 0b10, 0b11], 2)
        self.check(("choice", 0b01, 7, [0, None, None, None]), [7, 7], [1, 1], 1)
        self.check(("choice", 0b10, 6, [0, None, None, None]), [7, 6], [1, 1], 1)

    def test_prices_of_nought(self):
        self.check(("choice", 0b01, 0, [0, None, None, None]), [0, 0], [1, 1], 1)
        self.check(("choice", 0b10, 0, [0, 0, None, None]), [0, 0], [0, 1], 1)
        self.check(("choice", 0b11, 0, [0, 1, 0, None]), [0, 0], [0b01, 0b10], 2)

    def test_the_greatest_prices(self):
        covers = [2 ** k for k in range(8)]
        told = least_choice([FAR] * 8, covers, 8)
        self.check(("choice", 255, 8 * FAR, told[3]), [FAR] * 8, covers, 8)
        self.check(("choice", 0b10, FAR - 1, [0, None, None, None]), [FAR, FAR - 1], [1, 1], 1)


class Paper(Case):
    def test_the_least_want_not_met_by_each_choice(self):
        paper = [0, 1, 0, 2, 0, 1, 0, None]
        self.check(("choice", 7, 6, paper), [1, 2, 3], [0b0001, 0b1010, 0b0100], 4)

    def test_wants_met_without_any_offer(self):
        self.check(("choice", 2, 2, [1, 1, None, None]), [1, 2], [0b0001, 0b1010], 4, 0b0101)
        self.check(("choice", 3, 3, [1, 1, 3, None]), [1, 2], [0b1001, 0b0010], 4, 0b0101)

    def test_base_by_its_name(self):
        self.assertEqual(least_choice([4], [0], 1, base=1), ("choice", 0, 0, [None, None]))

    def test_300_wants(self):
        whole = 2 ** 300 - 1
        self.check(("choice", 1, 9, [0, None]), [9], [whole], 300)
        self.check(("none", 299), [9], [whole - 2 ** 299], 300)
        self.check(("choice", 1, 9, [299, None]), [9], [2 ** 299], 300, 2 ** 299 - 1)

    def test_against_a_reckoning_over_all_choices(self):
        chance = random.Random(61)
        words = set()
        for count in range(9):
            for many in (0, 1, 3, 6, 12, 40, 300):
                for density in (1, 2, 3):
                    covers = []
                    for k in range(count):
                        cover = 2 ** many - 1
                        for more in range(4 - density):
                            cover &= chance.getrandbits(many + 1)
                        covers.append(cover)
                    base = chance.choice([0, chance.getrandbits(many + 1) & (2 ** many - 1), 2 ** many - 1])
                    prices = [chance.choice([0, 1, 1, 2, 3, FAR]) for k in range(count)]
                    told = least_choice(prices, covers, many, base)
                    words.add(told[0])
                    self.check(reckoned(prices, covers, many, base), prices, covers, many, base)
                    self.assertEqual(least_choice(prices, covers, many), reckoned(prices, covers, many))
        self.assertEqual(words, {"choice", "none"})

    def test_what_is_done_to_the_paper_changes_nothing_later(self):
        told = least_choice([1, 2], [1, 1], 1)
        told[3][0] = 9
        told[3].clear()
        self.check(("choice", 1, 1, [0, None, None, None]), [1, 2], [1, 1], 1)
