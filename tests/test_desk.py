import random
import unittest

from reckoning import dark_stones, is_shaded, stones_in
from samples import yard_by
from shadowpost.desk import Desk
from shadowpost.dials import dial
from shadowpost.errors import BadRow, BadThing, NoDay, NoRow, NoStone, NoTurn
from shadowpost.lit import first_lit, hours, lit_turns
from shadowpost.walks import shady_walk
from shadowpost.yardtexts import show_yard

FAR = 10 ** 9
TEXT = "\n".join([
    "yard 3 2",
    "post 1 0 1",
    "day june 30",
    "ray 1 0 1",
    "ray -1 0 1",
    "night",
    "day may 1000000000",
    "night",
    "ray 0 0 1",
])
SHOWN = TEXT.replace("\n", "; ")

# A row of each form, with a day's name at place 1 where one is due.
FORMS = {
    "show": "show",
    "dark": "dark june 0",
    "who": "who june 0 1 0",
    "lit": "lit june 0 0",
    "hours": "hours 0 0",
    "first": "first 0 0",
    "put": "put post 0 0 1",
    "take": "take 0",
    "walk": "walk june 0 0 1 0",
    "dial": "dial 0 0 1",
}
WITH_DAY = ("dark", "who", "lit", "walk")
NO_NUMBERS = ["", "x", "-", "-0", "01", "+1", "1.0", "12345678901", "june", "1,2"]


class Case(unittest.TestCase):
    def setUp(self):
        self.desk = Desk(TEXT)

    def says(self, row, wanted):
        told = self.desk.say(row)
        self.assertIs(type(told), str)
        self.assertEqual(told, wanted, row)

    def refused(self, row, error, **fields):
        ahead = self.desk.say("show")
        with self.assertRaises(error, msg=row) as taken:
            self.desk.say(row)
        self.assertIs(type(taken.exception), error, row)
        self.assertEqual(vars(taken.exception), fields, row)
        self.assertEqual(self.desk.say("show"), ahead)


class Made(Case):
    def test_a_text_that_is_refused(self):
        behind = [(TEXT + "\n", 9), (TEXT + "\nday a 1", 10), (TEXT + "\npost 1 1 1", 9)]
        for text, row in [("", 0), ("yard 0 1", 0)] + behind:
            with self.assertRaises(BadRow) as taken:
                Desk(text)
            self.assertEqual(taken.exception.row, row)

    def test_two_desks_are_apart(self):
        other = Desk(TEXT)
        self.says("take 0", "ok")
        self.assertEqual(other.say("show"), SHOWN)


class Answers(Case):
    def test_show(self):
        self.says("show", SHOWN)
        self.assertEqual(Desk("yard 1 1").say("show"), "yard 1 1")

    def test_dark(self):
        self.says("dark june 0", ".##/...")
        self.says("dark june 1", "##./...")
        self.says("dark june 2", "###/###")
        self.says("dark may 1", ".#./...")
        self.assertEqual(Desk("yard 1 1\nday a 1\nray 0 0 1").say("dark a 0"), ".")
        self.assertEqual(Desk("yard 1 3\npost 0 1 1\nday a 1\nray 0 0 1").say("dark a 0"), "./#/.")

    def test_who(self):
        self.says("who june 0 2 0", "0")
        self.says("who june 0 0 0", "-")
        self.says("who june 2 0 0", "night")
        self.says("who june 2 1 0", "night")
        self.says("put sail 0 0 4 2 1", "ok")
        self.says("who may 1 1 0", "0")
        self.says("who may 1 1 1", "1")
        self.says("who june 0 0 0", "-")

    def test_lit(self):
        self.says("lit june 0 0", "0")
        self.says("lit june 2 1", "0 1")
        self.says("lit june 1 0", "-")
        self.says("lit may 2 0", "1")

    def test_hours(self):
        self.says("hours 0 0", "1000000030")
        self.says("hours 1 0", "0")
        self.says("hours 0 1", "1000000060")

    def test_hours_of_more_than_ten_figures(self):
        rows = ["yard 1 1"]
        for name in "abcdefghijkl":
            rows += [f"day {name} 1000000000"] + ["ray 0 0 1"] * 24
        self.assertEqual(Desk("\n".join(rows)).say("hours 0 0"), "288000000000")

    def test_first(self):
        self.says("first 0 0", "june 0")
        self.says("first 2 0", "june 1")
        self.says("first 1 0", "-")
        self.assertEqual(Desk("yard 1 1\nday a 1\nnight\nday b 1\nnight\nray 0 0 1").say("first 0 0"), "b 1")
        self.assertEqual(Desk("yard 1 1").say("first 0 0"), "-")

    def test_walk(self):
        self.says("walk june 2 1 2 1", "1 2,1")
        self.says("walk june 2 1 0 1", "2 2,1 1,1 0,1")
        self.says("walk may 0 1 1 1", "1 0,1 1,1")
        self.says("walk may 0 0 1 0", "0 0,0 1,0")
        self.says("walk may 2 1 2 0", "1 2,1 2,0")

    def test_a_walk_that_is_none(self):
        self.says("walk june 0 0 2 1", "none")
        self.says("walk may 0 0 2 0", "none")

    def test_dial(self):
        self.says("dial 0 0 1", "marks 0,0=1 1,0=0")
        self.says("dial 2 2 2", "marks 0,1=1 1,1=1 2,1=0")
        self.says("dial 0 0 2", "off june 1")
        self.says("dial 5 0 1", "off june 0")
        self.says("dial 4 9 1", "off june 0")
        desk = Desk("yard 2 2\nday a 1\nray 0 0 1\nday b 1\nnight\nray 0 0 1")
        self.assertEqual(desk.say("dial 0 0 1"), "alike a 0 b 1")
        self.assertEqual(Desk("yard 2 2\nday b 1\nnight\nray 0 0 1\nray 0 0 2").say("dial 0 0 1"), "alike b 1 b 2")
        self.assertEqual(Desk("yard 2 2").say("dial 0 0 1"), "marks")

    def test_a_pointer_at_and_beyond_its_bounds(self):
        for x, y, h in [(FAR, FAR, FAR), (-FAR, -FAR, 1), (FAR, -FAR, 1)]:
            self.says(f"dial {x} {y} {h}", "off june 0")
        for x, y, h in [(FAR + 1, 0, 1), (0, FAR + 1, 1), (0, 0, FAR + 1), (-FAR - 1, 0, 1), (0, -FAR - 1, 1)]:
            self.refused(f"dial {x} {y} {h}", BadThing)
        for h in (0, -1, -FAR, 9999999999):
            self.refused(f"dial 0 0 {h}", BadThing)
        self.assertEqual(Desk("yard 2 2").say(f"dial {FAR} {-FAR} {FAR}"), "marks")

    def test_against_the_stages_by_chance(self):
        chance = random.Random(121)
        for k in range(12):
            yard = yard_by(chance, chance.randint(1, 5), chance.randint(1, 4), chance.randint(0, 4), [3, 2])
            desk = Desk(show_yard(yard))
            for day, name in enumerate("ab"):
                for turn, ray in enumerate(yard.days[day][2]):
                    darks = ["#" if truth else "." for truth in dark_stones(yard, ray)]
                    rows = ["".join(darks[q * yard.width:(q + 1) * yard.width]) for q in range(yard.height)]
                    self.assertEqual(desk.say(f"dark {name} {turn}"), "/".join(rows))
                    for p, q in stones_in(yard):
                        shading = [j for j, thing in enumerate(yard.things) if ray and is_shaded(thing, (p, q), ray)]
                        wanted = str(min(shading, default="-")) if ray else "night"
                        self.assertEqual(desk.say(f"who {name} {turn} {p} {q}"), wanted)
                for p, q in stones_in(yard):
                    lit = " ".join(str(turn) for turn in lit_turns(yard, day, (p, q)))
                    self.assertEqual(desk.say(f"lit {name} {p} {q}"), lit or "-")
                    self.check_walk(desk, yard, day, (p, q), chance.choice(stones_in(yard)))
            for number, (p, q) in enumerate(stones_in(yard)):
                self.assertEqual(desk.say(f"hours {p} {q}"), str(hours(yard)[number]))
                first = first_lit(yard, (p, q))
                self.assertEqual(desk.say(f"first {p} {q}"), f"{'ab'[first[0]]} {first[1]}" if first else "-")

    def check_walk(self, desk, yard, day, start, goal):
        told = shady_walk(yard, day, start, goal)
        words = desk.say(f"walk {'ab'[day]} {start[0]} {start[1]} {goal[0]} {goal[1]}").split(" ")
        if told[0] == "none":
            self.assertEqual(words, ["none"])
        else:
            self.assertEqual(words, [str(told[1])] + [f"{p},{q}" for p, q in told[2]])

    def test_dials_against_the_stage_by_chance(self):
        chance = random.Random(122)
        for k in range(60):
            yard = yard_by(chance, 7, 6, 1, [2, 2])
            x, y, h = chance.randint(2, 9), chance.randint(2, 9), chance.randint(1, 2)
            told = dial(yard, (x, y, h))
            if told[0] == "marks":
                wanted = " ".join(["marks"] + [f"{n % 7},{n // 7}={turn}" for n, turn in told[1]])
            elif told[0] == "off":
                wanted = f"off {'ab'[told[1]]} {told[2]}"
            else:
                wanted = " ".join(["alike"] + [f"{'ab'[day]} {turn}" for day, turn in told[1:]])
            self.assertEqual(Desk(show_yard(yard)).say(f"dial {x} {y} {h}"), wanted)


class PutAndTake(Case):
    def test_put(self):
        self.says("put post 2 1 4", "ok")
        self.says("put fence 0 0 1 1 1", "ok")
        self.says("put cloth 0 0 0 1 1 1 2 2 2", "ok")
        more = "post 1 0 1; post 2 1 4; fence 0 0 1 1 1; cloth 0 0 0 1 1 1 2 2 2"
        self.says("show", SHOWN.replace("post 1 0 1", more))
        self.says("dark may 1", "##./.##")

    def test_take(self):
        for row in ("put post 0 0 1", "put post 2 0 1"):
            self.says(row, "ok")
        self.says("dark may 1", "###/...")
        self.says("take 1", "ok")
        self.says("show", SHOWN.replace("post 1 0 1", "post 1 0 1; post 2 0 1"))
        self.says("dark may 1", ".##/...")
        self.says("who may 1 2 0", "1")
        self.says("take 0", "ok")
        self.says("who may 1 2 0", "0")
        self.says("take 0", "ok")
        self.says("show", SHOWN.replace("; post 1 0 1", ""))
        self.says("dark june 0", ".../...")
        self.refused("take 0", NoRow)

    def test_take_of_none(self):
        for number in (-1, 1, 2, 9999999999, -9999999999):
            self.refused(f"take {number}", NoRow)

    def test_put_and_taken_out_again_all_is_as_before(self):
        rows = ["dark june 0", "dark may 1", "hours 0 0", "walk june 0 0 1 0", "show", "first 2 0"]
        ahead = [self.desk.say(row) for row in rows]
        self.says("put house -9 -9 9 9 9", "ok")
        self.assertNotEqual([self.desk.say(row) for row in rows], ahead)
        self.says("take 1", "ok")
        self.assertEqual([self.desk.say(row) for row in rows], ahead)

    def test_put_of_what_is_no_thing(self):
        for row in ["put tree 1 1 1", "put Post 1 1 1", "put post", "put x", "put 7", "put post 1", "put post 1 1 0"]:
            self.refused(row, BadThing)
        self.refused("put post 1 1 1 1", BadThing)
        self.refused("put fence 1 1 1 1 1", BadThing)
        self.refused("put sail 1 1 1 2 1", BadThing)
        self.refused(f"put post {FAR + 1} 1 1", BadThing)
        self.refused("put ", BadThing)
        self.refused("put  1 1 1", BadThing)
        self.refused("put show", BadThing)

    def test_put_with_a_word_that_is_no_number(self):
        for word in NO_NUMBERS:
            self.refused(f"put post 1 {word} 1", NoRow)
            self.refused(f"put tree {word}", NoRow)
        self.refused("put", NoRow)
        self.refused("put post ", NoRow)
        self.refused("put post 1 1 1 ", NoRow)
        self.refused("put post  1 1 1", NoRow)

    def test_with_40_things_standing(self):
        for k in range(39):
            self.says(f"put post {k} 5 1", "ok")
        for row in ["put post 1 1 1", "put tree 1", "put", "put post x", "put ", "put post"]:
            self.refused(row, NoRow)
        self.says("take 39", "ok")
        self.refused("put tree 1", BadThing)
        self.says("put post 1 1 1", "ok")
        self.refused("put post 1 1 1", NoRow)
        self.assertEqual(self.desk.say("show").count("post"), 40)


class Refusals(Case):
    def test_other_first_words(self):
        for row in ["", " ", "  ", "shows", "Show", "SHOW", "dim june 0", "yard 3 2", "post 1 1 1", "1", "-", "night"]:
            self.refused(row, NoRow)
        for row in FORMS.values():
            self.refused(" " + row, NoRow)
            self.refused("x" + row, NoRow)

    def test_too_few_and_too_many_words(self):
        for word, row in FORMS.items():
            if word != "put":
                self.refused(row + " 1", NoRow)
                self.refused(row + " ", NoRow)
                self.refused(row + "  ", NoRow)
            if word not in ("put", "show"):
                self.refused(row.rpartition(" ")[0], NoRow)
                self.refused(word, NoRow)
                self.refused(word + " ", NoRow)

    def test_words_that_are_no_numbers(self):
        for word, row in FORMS.items():
            words = row.split(" ")
            first = 2 if word in WITH_DAY or word == "put" else 1
            for place in range(first, len(words)):
                for other in NO_NUMBERS:
                    self.refused(" ".join(words[:place] + [other] + words[place + 1:]), NoRow)

    def test_two_blanks(self):
        for word, row in FORMS.items():
            if " " in row and word != "put":
                self.refused(row.replace(" ", "  ", 1), NoRow)
                self.refused(row.replace(" ", "  "), NoRow)

    def test_days_that_are_none(self):
        for word in WITH_DAY:
            words = FORMS[word].split(" ")
            for name in ["july", "", "June", "0", "jun", "june1", "day", "-1", "a,b"]:
                self.refused(" ".join([word, name] + words[2:]), NoDay, name=name)

    def test_turns_that_are_none(self):
        for turn in (3, -1, 9999999999, -9999999999):
            self.refused(f"dark june {turn}", NoTurn, day=0, turn=turn)
            self.refused(f"who june {turn} 0 0", NoTurn, day=0, turn=turn)
        self.refused("dark may 2", NoTurn, day=1, turn=2)
        self.refused("who may 2 0 0", NoTurn, day=1, turn=2)

    def test_stones_that_are_none(self):
        for p, q in [(-1, 0), (3, 0), (0, -1), (0, 2), (FAR, 0), (0, -FAR), (9999999999, -9999999999)]:
            self.refused(f"who june 0 {p} {q}", NoStone, stone=(p, q))
            self.refused(f"who june 2 {p} {q}", NoStone, stone=(p, q))
            self.refused(f"lit june {p} {q}", NoStone, stone=(p, q))
            self.refused(f"hours {p} {q}", NoStone, stone=(p, q))
            self.refused(f"first {p} {q}", NoStone, stone=(p, q))
            self.refused(f"walk june {p} {q} 0 0", NoStone, stone=(p, q))
            self.refused(f"walk june 0 0 {p} {q}", NoStone, stone=(p, q))

    def test_their_order(self):
        self.refused("dark july x", NoRow)
        self.refused("dark july 0 0", NoRow)
        self.refused("who july 9 9 x", NoRow)
        self.refused("dark july 9", NoDay, name="july")
        self.refused("who july 9 9 9", NoDay, name="july")
        self.refused("lit july 9 9", NoDay, name="july")
        self.refused("walk july 9 9 9 9", NoDay, name="july")
        self.refused("who june 9 9 9", NoStone, stone=(9, 9))
        self.refused("walk june 9 9 8 8", NoStone, stone=(9, 9))
        self.refused("walk june 0 0 8 8", NoStone, stone=(8, 8))
        self.refused("dial 0 0 x", NoRow)

    def test_what_is_refused_changes_nothing(self):
        rows = ["show", "dark june 0", "hours 0 0", "walk june 0 0 1 0", "dial 0 0 1", "lit june 0 0"]
        ahead = [self.desk.say(row) for row in rows]
        for row, error in [("put tree 1", BadThing), ("take 7", NoRow), ("dark x 0", NoDay), ("hours 9 9", NoStone)]:
            with self.assertRaises(error):
                self.desk.say(row)
            self.assertEqual([self.desk.say(other) for other in rows], ahead)

    def test_days_called_like_words_of_the_rows(self):
        desk = Desk("yard 1 1\nday dark 1\nnight\nday show 2\nray 0 0 1")
        self.assertEqual(desk.say("dark dark 0"), "#")
        self.assertEqual(desk.say("dark show 0"), ".")
        self.assertEqual(desk.say("first 0 0"), "show 0")
