import random
import unittest

from reckoning import is_in_the_dark
from samples import yard_by
from shadowpost.errors import NoStone
from shadowpost.things import thing_of
from shadowpost.watches import watch
from shadowpost.yards import Yard

FAR = 10 ** 9
DOWN, RIGHT, LEFT = (0, 0, 1), (1, 0, 1), (-1, 0, 1)


def row_yard(*turns):
    """Three stones in a row, a post on the middle one that reaches one stone on."""
    days = [("abcdefghijkl"[k], 1, list(some)) for k, some in enumerate(turns)]
    return Yard(3, 1, [thing_of("post", [1, 0, 1])], days)


def own_pairs(yard):
    pairs = []
    for day, (name, times, turns) in enumerate(yard.days):
        pairs += [(day, t, u) for t in range(len(turns)) for u in range(len(turns)) if t < u]
    return pairs


def is_seen(yard, number, day, turn):
    stone = (number % yard.width, number // yard.width)
    return not is_in_the_dark(yard, stone, yard.days[day][2][turn])


def reckoned(yard, numbers):
    pairs = own_pairs(yard)
    apart = []
    for n in numbers:
        apart.append({w for w, (d, t, u) in enumerate(pairs) if is_seen(yard, n, d, t) != is_seen(yard, n, d, u)})
    paper = []
    for choice in range(2 ** len(numbers)):
        met = set().union(*[some for k, some in enumerate(apart) if choice & 2 ** k])
        paper.append(min(set(range(len(pairs))) - met, default=None))
    if paper[-1] is not None:
        return ("alike",) + pairs[paper[-1]]
    price, choice = min((choice.bit_count(), choice) for choice, want in enumerate(paper) if want is None)
    return ("choice", choice, price, paper)


class Case(unittest.TestCase):
    def check(self, wanted, yard, numbers):
        given = list(numbers)
        told = watch(yard, given)
        self.assertEqual(given, numbers)
        self.assertIs(type(told), tuple)
        self.assertEqual(told, wanted)
        if told[0] == "choice":
            self.assertIs(type(told[3]), list)
            self.assertEqual(len(told[3]), 2 ** len(numbers))
        else:
            self.assertEqual([type(part) for part in told], [str, int, int, int])
        self.assertEqual(told, reckoned(yard, numbers))


class Watch(Case):
    def test_no_numbers(self):
        self.check(("choice", 0, 0, [None]), row_yard(), [])
        self.check(("choice", 0, 0, [None]), row_yard([DOWN], [None]), [])
        self.check(("alike", 0, 0, 1), row_yard([DOWN, None]), [])

    def test_one_number(self):
        self.check(("choice", 1, 1, [0, None]), row_yard([DOWN, LEFT]), [0])
        self.check(("alike", 0, 0, 1), row_yard([DOWN, LEFT]), [1])
        self.check(("alike", 0, 0, 1), row_yard([DOWN, LEFT]), [2])
        self.check(("alike", 0, 0, 2), row_yard([DOWN, LEFT, RIGHT]), [0])

    def test_two_numbers_together(self):
        self.check(("choice", 3, 2, [0, 1, 0, None]), row_yard([DOWN, LEFT, RIGHT]), [0, 2])
        self.check(("choice", 3, 2, [0, 0, 1, None]), row_yard([DOWN, LEFT, RIGHT]), [2, 0])
        self.check(("alike", 0, 0, 3), row_yard([DOWN, LEFT, RIGHT, DOWN]), [0, 2])

    def test_days_of_one_turn_have_no_wants(self):
        self.check(("choice", 0, 0, [None, None]), row_yard([DOWN], [LEFT], [None]), [0])
        self.check(("choice", 0, 0, [None] * 8), row_yard([DOWN], [LEFT]), [0, 1, 2])

    def test_no_days(self):
        self.check(("choice", 0, 0, [None, None]), row_yard(), [0])

    def test_nights(self):
        self.check(("choice", 1, 1, [0, None]), row_yard([DOWN, None]), [0])
        self.check(("alike", 0, 0, 1), row_yard([DOWN, None]), [1])
        self.check(("alike", 0, 1, 2), row_yard([DOWN, None, None]), [0, 1, 2])
        self.check(("alike", 0, 1, 2), row_yard([DOWN, None, LEFT]), [0])

    def test_turns_of_unlike_days_are_not_told_apart(self):
        self.check(("choice", 1, 1, [0, None]), row_yard([DOWN, LEFT], [DOWN, LEFT], [LEFT, DOWN]), [0])

    def test_the_pairs_by_the_days_then_by_t_then_by_u(self):
        self.check(("alike", 1, 0, 2), row_yard([DOWN, LEFT], [DOWN, LEFT, DOWN, LEFT]), [0])
        self.check(("alike", 0, 0, 3), row_yard([DOWN, LEFT, LEFT, DOWN]), [0])
        self.check(("alike", 2, 0, 1), row_yard([DOWN], [LEFT, DOWN], [RIGHT, DOWN]), [0, 1])

    def test_the_fewest_stones_and_of_these_the_least_choice(self):
        self.check(("choice", 2, 1, [0, 0, None, None]), row_yard([DOWN, LEFT]), [1, 0])
        told = ("choice", 2, 1, [0, 0, None, None, None, None, None, None])
        self.check(told, row_yard([DOWN, LEFT]), [2, 0, 0])
        told = watch(row_yard([DOWN, LEFT, RIGHT]), [1, 2, 0, 2])
        self.assertEqual(told[:3], ("choice", 0b0110, 2))

    def test_numbers_alike(self):
        self.check(("choice", 1, 1, [0, None, None, None]), row_yard([DOWN, LEFT]), [0, 0])
        self.check(("alike", 0, 0, 2), row_yard([DOWN, LEFT, RIGHT]), [0] * 8)

    def test_eight_numbers(self):
        chance = random.Random(91)
        yard = yard_by(chance, 4, 4, 4, [5, 4])
        numbers = [0, 5, 10, 15, 3, 6, 9, 12]
        self.check(reckoned(yard, numbers), yard, numbers)

    def test_300_wants(self):
        yard = row_yard([DOWN] * 24, [LEFT, DOWN] * 3, [LEFT, DOWN, RIGHT])
        self.check(("alike", 0, 0, 1), yard, [0, 2])

    def test_by_chance(self):
        chance = random.Random(92)
        words = []
        for k in range(60):
            turns = [chance.randint(1, 4) for day in range(chance.randint(0, 3))]
            yard = yard_by(chance, 4, 3, chance.randint(1, 4), turns)
            numbers = [chance.randint(0, 11) for number in range(chance.randint(0, 6))]
            self.check(reckoned(yard, numbers), yard, numbers)
            words.append(watch(yard, numbers)[0])
        self.assertGreater(words.count("choice"), 9)
        self.assertGreater(words.count("alike"), 9)

    def test_what_is_done_to_the_paper_changes_nothing_later(self):
        yard = row_yard([DOWN, LEFT])
        watch(yard, [0])[3].clear()
        self.check(("choice", 1, 1, [0, None]), yard, [0])


class Refusals(Case):
    def refused(self, yard, numbers, first):
        given = list(numbers)
        with self.assertRaises(NoStone) as taken:
            watch(yard, given)
        self.assertIs(type(taken.exception), NoStone)
        self.assertEqual(taken.exception.stone, first)
        self.assertIs(type(taken.exception.stone), int)
        self.assertEqual(given, numbers)

    def test_numbers_that_are_none(self):
        for number in (-1, 3, 4, -3, FAR, -FAR):
            self.refused(row_yard([DOWN, LEFT]), [number], number)
            self.refused(row_yard(), [0, number], number)
        self.refused(Yard(20, 20, [], []), [399, 400], 400)
        self.refused(Yard(2, 3, [], []), [5, 6], 6)

    def test_of_two_the_first_is_told(self):
        self.refused(row_yard([DOWN, LEFT]), [0, 3, -1], 3)
        self.refused(row_yard([DOWN, LEFT]), [0, -1, 3], -1)

    def test_afterwards_all_is_as_ahead(self):
        yard = row_yard([DOWN, LEFT])
        self.refused(yard, [7], 7)
        self.check(("choice", 1, 1, [0, None]), yard, [0])
