"""What is promised over the whole program: the stages agree with one another."""

import random
import unittest

from reckoning import set_of, stones_in
from samples import changed_about, thing_by, yard_by, yard_changed_about
from shadowpost.darks import alone, dark, dark_of, who
from shadowpost.dials import dial
from shadowpost.lit import ever_lit, first_lit, hours, lit_turns
from shadowpost.offers import keep_dark
from shadowpost.shades import shades, shading
from shadowpost.walks import shady_walk
from shadowpost.watches import watch
from shadowpost.yards import Yard
from shadowpost.yardtexts import read_yard, show_yard


def some_yards(seed, count=14):
    chance = random.Random(seed)
    for k in range(count):
        width, height = chance.randint(1, 5), chance.randint(1, 5)
        turns = [chance.randint(1, 4) for day in range(chance.randint(1, 3))]
        yield yard_by(chance, width, height, chance.randint(0, 5), turns), chance


def turns_in(yard):
    return [turn for name, times, turns in yard.days for turn in turns]


def with_thing(yard, thing):
    return Yard(yard.width, yard.height, yard.things + [thing], yard.days)


def told_of(yard):
    """All that a yard tells, in one list."""
    told = [hours(yard), ever_lit(yard), [first_lit(yard, stone) for stone in stones_in(yard)], show_yard(yard)]
    for day in range(len(yard.days)):
        told.append([lit_turns(yard, day, stone) for stone in stones_in(yard)])
        told.append(shady_walk(yard, day, (0, 0), (yard.width - 1, yard.height - 1)))
    for turn in turns_in(yard):
        told.append(dark(yard, turn))
        if turn is not None:
            told += [who(yard, turn), alone(yard, turn)]
    return told


class Dark(unittest.TestCase):
    def test_dark_just_where_it_is_night_or_some_thing_gives_weights(self):
        for yard, chance in some_yards(131):
            for turn in turns_in(yard):
                truths = []
                for stone in stones_in(yard):
                    words = [shading(thing, stone, turn)[0] for thing in yard.things] if turn else []
                    self.assertLessEqual(set(words), {"in", "out"})
                    truths.append(turn is None or "in" in words)
                self.assertEqual(dark(yard, turn), set_of(truths))

    def test_the_dark_of_each_thing_laid_together(self):
        for yard, chance in some_yards(132):
            for turn in turns_in(yard):
                if turn is not None:
                    bits = 0
                    for thing in yard.things:
                        bits |= dark_of(yard, thing, turn)
                    self.assertEqual(dark(yard, turn), bits)

    def test_the_lit_turns_the_dark_and_who_agree(self):
        for yard, chance in some_yards(133):
            for day, (name, times, turns) in enumerate(yard.days):
                for number, stone in enumerate(stones_in(yard)):
                    lit = lit_turns(yard, day, stone)
                    for k, turn in enumerate(turns):
                        is_dark = bool(dark(yard, turn) & 2 ** number)
                        self.assertEqual(k in lit, not is_dark)
                        if turn is not None:
                            self.assertEqual(who(yard, turn)[number] is not None, is_dark)


class OneMore(unittest.TestCase):
    def test_no_dark_stone_is_lit_and_no_stone_has_more_hours(self):
        for yard, chance in some_yards(134):
            more = with_thing(yard, thing_by(chance, 5))
            for turn in turns_in(yard):
                self.assertEqual(dark(yard, turn) & ~dark(more, turn), 0)
            for one, other in zip(hours(more), hours(yard)):
                self.assertLessEqual(one, other)
            self.assertEqual(ever_lit(more) & ~ever_lit(yard), 0)

    def test_no_walk_costs_more(self):
        for yard, chance in some_yards(135):
            more = with_thing(yard, thing_by(chance, 5))
            for day in range(len(yard.days)):
                goal = chance.choice(stones_in(yard))
                ahead, after = shady_walk(yard, day, (0, 0), goal), shady_walk(more, day, (0, 0), goal)
                self.assertEqual(ahead[0], after[0])
                for row, other in zip(ahead[-1], after[-1]):
                    for cost, less in zip(row, other):
                        self.assertEqual(cost is None, less is None)
                        if cost is not None:
                            self.assertLessEqual(less, cost)

    def test_taken_out_again_all_is_as_before(self):
        for yard, chance in some_yards(136, 8):
            ahead = told_of(yard)
            more = with_thing(yard, thing_by(chance, 5))
            told_of(more)
            self.assertEqual(told_of(Yard(more.width, more.height, more.things[:-1], more.days)), ahead)
            self.assertEqual(told_of(yard), ahead)

    def test_what_is_chosen_and_put_keeps_dark(self):
        for yard, chance in some_yards(137):
            offers = [(thing_by(chance, 5), chance.randint(0, 5)) for k in range(3)]
            wants = []
            for day, (name, times, turns) in enumerate(yard.days):
                wants.append((chance.choice(stones_in(yard)), day, chance.randrange(len(turns))))
            told = keep_dark(yard, offers, wants)
            choice = told[1] if told[0] == "choice" else 7
            chosen = [thing for k, (thing, price) in enumerate(offers) if choice & 2 ** k]
            other = Yard(yard.width, yard.height, yard.things + chosen, yard.days)
            lit = [k for k, (stone, day, turn) in enumerate(wants) if turn in lit_turns(other, day, stone)]
            self.assertEqual(lit[:1], [] if told[0] == "choice" else [told[1]])


class ChangedAbout(unittest.TestCase):
    def turned(self, yard, bits):
        """The set of a yard's stones as one of the yard with right and down changed about."""
        numbers = [q * yard.width + p for q in range(yard.height) for p in range(yard.width)]
        return sum(2 ** ((k % yard.width) * yard.height + k // yard.width) for k in numbers if bits & 2 ** k)

    def test_darks_and_hours(self):
        for yard, chance in some_yards(138):
            other = yard_changed_about(yard)
            for turn, about in zip(turns_in(yard), turns_in(other)):
                self.assertEqual(dark(other, about), self.turned(yard, dark(yard, turn)))
                if turn is not None:
                    self.assertEqual(alone(other, about), [self.turned(yard, bits) for bits in alone(yard, turn)])
            self.assertEqual(ever_lit(other), self.turned(yard, ever_lit(yard)))
            for p, q in stones_in(yard):
                self.assertEqual(hours(other)[p * yard.height + q], hours(yard)[q * yard.width + p])
                self.assertEqual(first_lit(other, (q, p)), first_lit(yard, (p, q)))

    def test_walks_watches_and_dials(self):
        for yard, chance in some_yards(139):
            other = yard_changed_about(yard)
            for day in range(len(yard.days)):
                start, goal = chance.choice(stones_in(yard)), chance.choice(stones_in(yard))
                told, about = shady_walk(yard, day, start, goal), shady_walk(other, day, start[::-1], goal[::-1])
                self.assertEqual(told[0], about[0])
                if told[0] == "walk":
                    self.assertEqual(told[1], about[1])
            some = [chance.choice(stones_in(yard)) for k in range(3)]
            numbers = [q * yard.width + p for p, q in some]
            self.assertEqual(watch(other, [p * yard.height + q for p, q in some]), watch(yard, numbers))
            x, y, h = chance.randint(0, 8), chance.randint(0, 8), chance.randint(1, 2)
            told, about = dial(yard, (x, y, h)), dial(other, (y, x, h))
            if told[0] == "marks":
                marks = sorted(((n % yard.width) * yard.height + n // yard.width, turn) for n, turn in told[1])
                self.assertEqual(about, ("marks", marks))
            else:
                self.assertEqual(about, told)

    def test_offers(self):
        for yard, chance in some_yards(140):
            other = yard_changed_about(yard)
            offers = [(thing_by(chance, 5), chance.randint(0, 5)) for k in range(3)]
            wants = [(chance.choice(stones_in(yard)), 0, 0) for k in range(3)]
            about = [((q, p), day, turn) for (p, q), day, turn in wants]
            turned = [(changed_about(thing), price) for thing, price in offers]
            self.assertEqual(keep_dark(other, turned, about), keep_dark(yard, offers, wants))


class Sums(unittest.TestCase):
    def test_hours_by_stones_and_by_turns(self):
        for yard, chance in some_yards(141):
            by_turns = 0
            for name, times, turns in yard.days:
                for turn in turns:
                    by_turns += times * (yard.width * yard.height - dark(yard, turn).bit_count())
            self.assertEqual(sum(hours(yard)), by_turns)
            by_stones = 0
            for stone in stones_in(yard):
                by_stones += sum(day[1] * len(lit_turns(yard, k, stone)) for k, day in enumerate(yard.days))
            self.assertEqual(by_stones, by_turns)

    def test_what_was_read_tells_the_same(self):
        for yard, chance in some_yards(142, 8):
            self.assertEqual(told_of(read_yard(show_yard(yard))), told_of(yard))

    def test_asked_again_the_same_is_told(self):
        for yard, chance in some_yards(143, 8):
            self.assertEqual(told_of(yard), told_of(yard))


class Greatest(unittest.TestCase):
    def test_the_greatest_yard(self):
        chance = random.Random(144)
        yard = yard_by(chance, 20, 20, 40, [24] * 12)
        sums = hours(yard)
        self.assertEqual(len(sums), 400)
        self.assertEqual(set_of(hour > 0 for hour in sums), ever_lit(yard))
        for stone in [(0, 0), (19, 0), (0, 19), (19, 19), (7, 11)]:
            lit = [len(lit_turns(yard, day, stone)) for day in range(12)]
            self.assertEqual(sum(count * day[1] for count, day in zip(lit, yard.days)), sums[stone[1] * 20 + stone[0]])
        ray = next(turn for turn in yard.days[0][2] if turn)
        truths = [any(shades(thing, stone, ray) for thing in yard.things) for stone in stones_in(yard)]
        self.assertEqual(dark(yard, ray), set_of(truths))
