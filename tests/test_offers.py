import itertools
import random
import unittest

from reckoning import is_in_the_dark, is_shaded
from samples import thing_by, yard_by
from shadowpost.errors import NoStone, NoTurn
from shadowpost.lit import hours
from shadowpost.offers import keep_dark
from shadowpost.things import thing_of
from shadowpost.yards import Yard

FAR = 10 ** 9
DOWN, RIGHT = (0, 0, 1), (1, 0, 1)


def row_yard():
    """Four stones in a row, a post on the first of them."""
    return Yard(4, 1, [thing_of("post", [0, 0, 1])], [("june", 3, [DOWN, RIGHT, None]), ("may", 1, [DOWN])])


def post(p, h=1):
    return thing_of("post", [p, 0, h])


def yard_with(yard, offers, choice):
    things = [thing for k, (thing, price) in enumerate(offers) if choice & 2 ** k]
    return Yard(yard.width, yard.height, yard.things + things, yard.days)


def lit_wants(yard, wants):
    return [k for k, (stone, day, turn) in enumerate(wants) if not is_in_the_dark(yard, stone, yard.days[day][2][turn])]


def reckoned(yard, offers, wants):
    choices = range(2 ** len(offers))
    paper = [min(lit_wants(yard_with(yard, offers, choice), wants), default=None) for choice in choices]
    priced = []
    for choice in choices:
        if paper[choice] is None:
            priced.append((sum(price for k, (thing, price) in enumerate(offers) if choice & 2 ** k), choice))
    if not priced:
        return ("none", paper[-1])
    return ("choice", min(priced)[1], min(priced)[0], paper)


class Case(unittest.TestCase):
    def check(self, wanted, yard, offers, wants):
        given, wishes = list(offers), list(wants)
        told = keep_dark(yard, given, wishes)
        self.assertEqual((given, wishes), (offers, wants))
        self.assertIs(type(told), tuple)
        self.assertEqual(told, wanted)
        return told


class Met(Case):
    def test_by_the_yard_as_it_stands(self):
        self.check(("choice", 0, 0, [None, None]), row_yard(), [(post(1), 5)], [((0, 0), 0, 0), ((1, 0), 0, 1)])

    def test_at_night(self):
        wants = [((p, 0), 0, 2) for p in range(4)]
        self.check(("choice", 0, 0, [None]), row_yard(), [], wants)
        self.check(("choice", 0, 0, [None, None]), row_yard(), [(post(1), 0)], wants)

    def test_by_one_offer(self):
        self.check(("choice", 1, 5, [0, None]), row_yard(), [(post(1), 5)], [((1, 0), 0, 0)])
        self.check(("choice", 1, 5, [1, None]), row_yard(), [(post(1), 5)], [((0, 0), 0, 0), ((2, 0), 0, 1)])

    def test_by_two_together(self):
        offers = [(post(1), 5), (post(3), 2)]
        wants = [((1, 0), 0, 0), ((3, 0), 1, 0)]
        self.check(("choice", 3, 7, [0, 1, 0, None]), row_yard(), offers, wants)

    def test_by_none(self):
        offers = [(post(1), 5), (post(3), 2)]
        self.check(("none", 0), row_yard(), offers, [((2, 0), 0, 0)])
        self.check(("none", 1), row_yard(), offers, [((1, 0), 0, 0), ((2, 0), 0, 0), ((2, 0), 1, 0)])
        self.check(("none", 0), row_yard(), [], [((1, 0), 0, 0)])

    def test_the_turn_of_the_want_counts(self):
        self.check(("choice", 1, 1, [0, None]), row_yard(), [(post(1), 1)], [((2, 0), 0, 1)])
        self.check(("none", 0), row_yard(), [(post(1), 1)], [((2, 0), 0, 0)])
        self.check(("none", 0), row_yard(), [(post(1), 1)], [((2, 0), 1, 0)])

    def test_the_cheapest(self):
        offers = [(post(1), 5), (post(2), 5), (thing_of("house", [2, 0, 4, 1, 1]), 9)]
        wants = [((1, 0), 0, 0), ((2, 0), 0, 0)]
        self.check(("choice", 4, 9, [0, 1, 0, None, None, None, None, None]), row_yard(), offers, wants)
        offers[2] = (offers[2][0], 10)
        self.check(("choice", 3, 10, [0, 1, 0, None, None, None, None, None]), row_yard(), offers, wants)


class Lists(Case):
    def test_no_wants(self):
        self.check(("choice", 0, 0, [None]), row_yard(), [], [])
        self.check(("choice", 0, 0, [None] * 4), row_yard(), [(post(1), 5), (post(2), 0)], [])
        self.check(("choice", 0, 0, [None]), Yard(1, 1, [], []), [], [])

    def test_wants_alike(self):
        wants = [((1, 0), 0, 0)] * 3
        self.check(("choice", 1, 5, [0, None]), row_yard(), [(post(1), 5)], wants)
        self.check(("none", 1), row_yard(), [(post(1), 5)], wants[:1] + [((2, 0), 0, 0)] * 2)

    def test_sixty_wants(self):
        wants = [((p, 0), 0, turn) for p in range(4) for turn in (0, 1, 2)] * 5
        self.assertEqual(len(wants), 60)
        offers = [(post(1), 1), (post(2), 1), (post(3), 1)]
        told = keep_dark(row_yard(), offers, wants)
        self.check(reckoned(row_yard(), offers, wants), row_yard(), offers, wants)
        self.assertEqual(told[1:3], (7, 3))
        wants[59] = ((3, 0), 1, 0)
        self.check(("none", 59), row_yard(), [], [((0, 0), 0, 0)] * 59 + wants[59:])

    def test_the_same_thing_offered_twice(self):
        thing = post(1)
        self.check(("choice", 1, 5, [0, None, None, None]), row_yard(), [(thing, 5), (thing, 5)], [((1, 0), 0, 0)])
        self.check(("choice", 2, 4, [0, None, None, None]), row_yard(), [(thing, 5), (thing, 4)], [((1, 0), 0, 0)])

    def test_the_greatest_prices(self):
        self.check(("choice", 3, 2 * FAR, [0, 1, 0, None]), row_yard(), [(post(1), FAR), (post(3), FAR)],
                   [((1, 0), 0, 0), ((3, 0), 0, 0)])

    def test_against_a_reckoning_over_all_choices(self):
        chance = random.Random(71)
        words = set()
        for turn in range(30):
            yard = yard_by(chance, 4, 3, chance.randint(0, 2), [3, 2])
            offers = [(thing_by(chance, 4), chance.choice([0, 1, 2, 2, 7])) for k in range(chance.randint(0, 5))]
            wants = []
            for k in range(chance.randint(0, 5)):
                stone, day = (chance.randint(0, 3), chance.randint(0, 2)), chance.randint(0, 1)
                wants.append((stone, day, chance.randint(0, 2 - day)))
            words.add(self.check(reckoned(yard, offers, wants), yard, offers, wants)[0])
        self.assertEqual(words, {"choice", "none"})

    def test_eight_offers(self):
        offers = [(post(p % 4), p + 1) for p in range(8)]
        wants = [((p, 0), 0, 0) for p in range(4)]
        told = self.check(reckoned(row_yard(), offers, wants), row_yard(), offers, wants)
        self.assertEqual(told[1:3], (0b1110, 9))
        self.assertEqual(len(told[3]), 256)

    def test_the_chosen_keep_dark_and_others_leave_their_want_lit(self):
        offers = [(post(1), 5), (post(2), 5), (thing_of("house", [2, 0, 4, 1, 1]), 9), (post(3), 1)]
        wants = [((3, 0), 0, 1), ((1, 0), 0, 0), ((2, 0), 0, 0), ((0, 0), 0, 2)]
        word, choice, price, paper = keep_dark(row_yard(), offers, wants)
        self.assertEqual(word, "choice")
        self.assertEqual(lit_wants(yard_with(row_yard(), offers, choice), wants), [])
        for other, want in enumerate(paper):
            lit = lit_wants(yard_with(row_yard(), offers, other), wants)
            self.assertEqual(min(lit, default=None), want)
            if want is None:
                self.assertGreaterEqual(sum(offers[k][1] for k in range(4) if other & 2 ** k), price)

    def test_what_is_done_to_the_paper_changes_nothing_later(self):
        offers, wants = [(post(1), 5)], [((1, 0), 0, 0)]
        yard = row_yard()
        keep_dark(yard, offers, wants)[3].clear()
        self.check(("choice", 1, 5, [0, None]), yard, offers, wants)
        self.assertEqual(len(yard.things), 1)


class Refusals(Case):
    def refused(self, error, fields, wants, offers=()):
        yard = row_yard()
        ahead = hours(yard)
        given = list(wants)
        with self.assertRaises(error) as taken:
            keep_dark(yard, list(offers), given)
        self.assertIs(type(taken.exception), error)
        self.assertEqual(vars(taken.exception), fields)
        self.assertEqual(given, list(wants))
        self.assertEqual(hours(yard), ahead)

    def test_stones_that_are_none(self):
        for stone in [(-1, 0), (4, 0), (0, -1), (0, 1), (FAR, 0), (0, -FAR), (FAR, FAR)]:
            self.refused(NoStone, {"stone": stone}, [(stone, 0, 0)])
            self.refused(NoStone, {"stone": stone}, [(stone, 0, 2)], [(post(1), 1)])

    def test_days_and_turns_that_are_none(self):
        for day, turn in [(-1, 0), (2, 0), (FAR, 0), (-2, 0), (0, -1), (0, 3), (1, 1), (1, -1), (0, FAR), (2, 7)]:
            self.refused(NoTurn, {"day": day, "turn": turn}, [((0, 0), day, turn)])

    def test_the_stone_comes_ahead_of_the_turn(self):
        for stone, (day, turn) in itertools.product([(-1, 0), (4, 0), (0, 1)], [(-1, 0), (2, 0), (0, 3), (FAR, FAR)]):
            self.refused(NoStone, {"stone": stone}, [(stone, day, turn)])

    def test_the_first_want_that_is_none(self):
        right = ((1, 0), 0, 0)
        self.refused(NoTurn, {"day": 0, "turn": 3}, [right, ((1, 0), 0, 3), ((9, 9), 0, 0)])
        self.refused(NoStone, {"stone": (9, 9)}, [right, ((9, 9), 0, 0), ((1, 0), 0, 3)])
        self.refused(NoStone, {"stone": (9, 9)}, [right] * 59 + [((9, 9), 0, 0)], [(post(1), 1)] * 8)
        self.refused(NoTurn, {"day": 7, "turn": 1}, [right] * 40 + [((0, 0), 7, 1)] + [((8, 8), 8, 8)] * 19)

    def test_refused_also_where_the_others_cannot_be_met(self):
        self.refused(NoStone, {"stone": (4, 0)}, [((2, 0), 0, 0), ((4, 0), 0, 0)])

    def test_the_shade_of_an_offer_is_that_on_the_ground(self):
        chance = random.Random(72)
        yard = Yard(5, 5, [], [("june", 1, [(2, 1, 3)])])
        for k in range(40):
            thing, stone = thing_by(chance, 5), (chance.randint(0, 4), chance.randint(0, 4))
            told = keep_dark(yard, [(thing, 1)], [(stone, 0, 0)])
            self.assertEqual(told[0] == "choice", is_shaded(thing, stone, (2, 1, 3)))
