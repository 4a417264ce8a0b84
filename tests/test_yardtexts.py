import random
import unittest

from samples import yard_by
from shadowpost.errors import BadRow
from shadowpost.lit import hours
from shadowpost.things import Cloth, Fence, House, Post, Sail, thing_of
from shadowpost.yards import Yard
from shadowpost.yardtexts import read_yard, show_yard

FAR = 10 ** 9
MOST = 10 ** 6

WHOLE = [
    "yard 4 3",
    "post 1 1 3",
    "fence 0 0 4 2 5",
    "sail -1 -1 3 3 9",
    "cloth 0 0 0 1 2 3 -4 5 6",
    "house 2 2 5 5 1",
    "day june 30",
    "ray 1 0 1",
    "night",
    "ray -3 2 7",
    "day may 1000000000",
    "night",
]

NO_NUMBERS = ["", "-", "+1", "01", "00", "-0", "-01", "1.0", "x", "1x", "12345678901", "1-", "--1", "0x1", "1,", "_1"]


class Case(unittest.TestCase):
    def read(self, rows):
        text = "\n".join(rows)
        yard = read_yard(text)
        self.assertIs(type(yard), Yard)
        self.assertEqual(show_yard(yard), text)
        self.assertIs(type(show_yard(yard)), str)
        return yard

    def refused(self, rows, row):
        with self.assertRaises(BadRow, msg=rows) as taken:
            read_yard("\n".join(rows))
        self.assertIs(type(taken.exception), BadRow)
        self.assertIs(type(taken.exception.row), int)
        self.assertEqual(taken.exception.row, row, rows)

    def changed(self, number, row):
        """The rows of a whole text with another one in the place of one of them."""
        return WHOLE[:number] + [row] + WHOLE[number + 1:]

    def bad_rows(self, number, rows):
        for row in rows:
            self.refused(self.changed(number, row), number)


class Read(Case):
    def test_a_whole_text(self):
        yard = self.read(WHOLE)
        self.assertEqual((yard.width, yard.height), (4, 3))
        self.assertEqual([type(thing) for thing in yard.things], [Post, Fence, Sail, Cloth, House])
        self.assertEqual([thing.shown() for thing in yard.things], WHOLE[1:6])
        june = ("june", 30, [(1, 0, 1), None, (-3, 2, 7)])
        self.assertEqual(yard.days, [june, ("may", 1000000000, [None])])
        self.assertEqual([type(turn) for turn in yard.days[0][2]], [tuple, type(None), tuple])

    def test_no_things_and_no_days(self):
        yard = self.read(["yard 1 1"])
        self.assertEqual((yard.width, yard.height, yard.things, yard.days), (1, 1, [], []))

    def test_things_alone_and_days_alone(self):
        self.assertEqual(len(self.read(WHOLE[:6]).things), 5)
        self.assertEqual(len(self.read(WHOLE[:1] + WHOLE[6:]).days), 2)

    def test_each_size(self):
        for width in range(1, 21):
            for height in (1, 2, 10, 19, 20):
                yard = self.read([f"yard {width} {height}"])
                self.assertEqual((yard.width, yard.height), (width, height))

    def test_40_things_12_days_and_24_turns(self):
        things = [f"post {k} 0 {k + 1}" for k in range(40)]
        days = []
        for name in "abcdefghijkl":
            days += [f"day {name} 1"] + [f"ray {k} {-k} 1" for k in range(24)]
        yard = self.read(["yard 20 20"] + things + days)
        self.assertEqual((len(yard.things), len(yard.days)), (40, 12))
        self.assertEqual([len(turns) for name, times, turns in yard.days], [24] * 12)

    def test_days_called_like_words_of_the_rows(self):
        names = ["day", "night", "ray", "post", "yard", "fence", "sail", "cloth", "house"]
        rows = ["yard 2 2"]
        for name in names:
            rows += [f"day {name} 2", "night", "ray 0 0 1"]
        self.assertEqual([day[0] for day in self.read(rows).days], names)

    def test_names_of_one_and_of_eight_letters(self):
        yard = self.read(["yard 2 2", "day a 1", "night", "day abcdefgh 1", "night"])
        self.assertEqual([day[0] for day in yard.days], ["a", "abcdefgh"])

    def test_turns_alike_and_things_alike(self):
        self.read(["yard 2 2", "post 0 0 1", "post 0 0 1", "day a 1", "night", "night", "ray 0 0 1", "ray 0 0 1"])

    def test_numbers_at_their_bounds(self):
        self.read(self.changed(1, f"post {-FAR} {FAR} {FAR}"))
        self.read(self.changed(2, f"fence {FAR} {-FAR} {-FAR} {FAR} 1"))
        self.read(self.changed(3, f"sail {-FAR} {-FAR} {FAR} {FAR} {FAR}"))
        self.read(self.changed(4, f"cloth {FAR} {FAR} {FAR} {-FAR} {-FAR} 0 0 0 0"))
        self.read(self.changed(6, "day june 1"))
        self.read(self.changed(6, "day june 1000000000"))
        for ray in [(MOST, MOST, MOST), (-MOST, -MOST, 1), (0, 0, 1)]:
            yard = self.read(self.changed(7, "ray %d %d %d" % ray))
            self.assertEqual(yard.days[0][2][0], ray)


class Rows(Case):
    def test_other_words(self):
        for number in range(1, len(WHOLE)):
            self.bad_rows(number, ["", " ", "tree 1 1 1", "Post 1 1 1", "posts 1 1 1", "rays 1 1 1", "Night", "nights"])
        self.bad_rows(0, ["", " ", "Yard 4 3", "yards 4 3", "4 3", "post 1 1 3", "night", "day june 30", "ray 1 0 1"])
        self.bad_rows(10, ["Day may 1", "days may 1", "may 1"])

    def test_too_few_and_too_many_words(self):
        for number, row in enumerate(WHOLE):
            words = row.split(" ")
            self.bad_rows(number, [" ".join(words[:-1]), row + " 1", row + " 1 2 3", words[0] + " 7" * 20])
            if len(words) > 1:
                self.bad_rows(number, [words[0]])

    def test_two_blanks_and_a_blank_at_an_end(self):
        for number, row in enumerate(WHOLE):
            self.bad_rows(number, [" " + row, row + " ", row + "  ", row + "\t", "  " + row])
            if " " in row:
                self.bad_rows(number, [row.replace(" ", "  "), row.replace(" ", "  ", 1), row.replace(" ", "\t", 1)])

    def test_numbers_not_written_as_numbers(self):
        for number, row in enumerate(WHOLE):
            words = row.split(" ")
            first = 2 if words[0] == "day" else 1
            for place in range(first, len(words)):
                rows = [" ".join(words[:place] + [word] + words[place + 1:]) for word in NO_NUMBERS]
                self.bad_rows(number, rows)

    def test_bounds_of_the_size(self):
        self.bad_rows(0, ["yard 0 3", "yard 4 0", "yard 21 3", "yard 4 21", "yard -1 3", "yard 4 -1"])
        self.bad_rows(0, ["yard 0 0", "yard 21 21", "yard -4 -3", "yard 9999999999 1"])

    def test_bounds_of_the_things(self):
        beyond = FAR + 1
        self.bad_rows(1, ["post 1 1 0", "post 1 1 -1", f"post 1 1 {beyond}"])
        self.bad_rows(1, [f"post {beyond} 1 1", f"post 1 {-beyond} 1"])
        self.bad_rows(2, ["fence 1 1 1 1 1", "fence 0 0 4 2 0", f"fence 0 0 4 {beyond} 1", f"fence {-beyond} 0 4 2 1"])
        self.bad_rows(3, ["sail 3 -1 3 3 1", "sail -1 3 3 3 1", "sail 4 -1 3 3 1", "sail -1 -1 3 3 0"])
        self.bad_rows(4, ["cloth 0 0 -1 1 2 3 4 5 6", f"cloth 0 0 0 1 2 {beyond} 4 5 6"])
        self.bad_rows(4, [f"cloth {beyond} 0 0 1 2 3 4 5 6", f"cloth 0 0 0 1 2 3 4 {-beyond} 6"])
        self.bad_rows(5, ["house 5 2 5 5 1", "house 2 5 5 5 1", "house 2 2 5 5 0", f"house 2 2 5 {beyond} 1"])

    def test_bounds_of_the_days(self):
        self.bad_rows(6, ["day june 0", "day june -1", "day june 1000000001", "day june 9999999999"])
        self.bad_rows(6, ["day June 30", "day  30", "day june1 30", "day abcdefghi 30", "day 30 june", "day 7 30"])

    def test_bounds_of_the_rays(self):
        for place in range(3):
            for number in (MOST + 1, -MOST - 1, 9999999999, -9999999999):
                words = ["ray", "1", "1", "1"]
                words[place + 1] = str(number)
                self.bad_rows(7, [" ".join(words)])
        self.bad_rows(7, ["ray 1 1 0", "ray 1 1 -1", "ray 0 0 0", "ray 1 1", "ray 1 1 1 1", "night 1", "night ", "ray"])


class Due(Case):
    def test_the_first_row_no_yard(self):
        self.refused(WHOLE[1:], 0)
        self.refused(WHOLE[6:], 0)
        self.refused([""] + WHOLE, 0)
        self.refused(["night"] + WHOLE, 0)

    def test_the_text_without_signs(self):
        self.refused([""], 0)
        self.refused(["", ""], 0)

    def test_a_second_yard(self):
        for number in range(1, len(WHOLE) + 1):
            self.refused(WHOLE[:number] + ["yard 4 3"] + WHOLE[number:], number)

    def test_a_thing_behind_a_day(self):
        for thing in WHOLE[1:6]:
            for number in range(7, len(WHOLE) + 1):
                self.refused(WHOLE[:number] + [thing] + WHOLE[number:], number)

    def test_a_turn_ahead_of_any_day(self):
        for turn in ("night", "ray 1 0 1"):
            for number in range(1, 7):
                self.refused(WHOLE[:number] + [turn] + WHOLE[number:], number)
            self.refused(["yard 1 1", turn], 1)

    def test_the_41st_thing(self):
        things = [f"post {k} 0 1" for k in range(42)]
        self.read(["yard 2 2"] + things[:40])
        self.refused(["yard 2 2"] + things[:41], 41)
        self.refused(["yard 2 2"] + things, 41)
        self.refused(["yard 2 2"] + things[:41] + WHOLE[6:], 41)

    def test_the_13th_day(self):
        days = [row for name in "abcdefghijklmn" for row in (f"day {name} 1", "night")]
        self.read(["yard 2 2"] + days[:24])
        self.refused(["yard 2 2"] + days[:26], 25)
        self.refused(["yard 2 2"] + days[:25], 25)
        self.refused(["yard 2 2"] + days, 25)

    def test_the_25th_turn(self):
        for turn in ("night", "ray 1 1 1"):
            self.read(["yard 2 2", "day a 1"] + [turn] * 24)
            self.refused(["yard 2 2", "day a 1"] + [turn] * 25, 26)
            self.refused(["yard 2 2", "day a 1"] + [turn] * 30, 26)
            self.refused(["yard 2 2", "day b 1", "night", "day a 1"] + [turn] * 25, 28)
            self.read(["yard 2 2", "day b 1"] + [turn] * 24 + ["day a 1"] + [turn] * 24)

    def test_a_name_told_twice(self):
        self.refused(WHOLE + ["day june 30", "night"], 12)
        self.refused(WHOLE + ["day may 2", "night"], 12)
        self.refused(WHOLE + ["day may 2"], 12)
        self.refused(WHOLE[:10] + ["day june 1"] + WHOLE[11:], 10)

    def test_a_day_without_turns_amid_the_text(self):
        self.refused(["yard 2 2", "day a 1", "day b 1", "night"], 2)
        self.refused(["yard 2 2", "day a 1", "night", "day b 1", "day c 1", "night"], 4)
        self.refused(["yard 2 2", "day a 1", "post 1 1 1"], 2)
        self.refused(["yard 2 2", "day a 1", "yard 2 2"], 2)
        self.refused(["yard 2 2", "day a 1", "day a 1"], 2)

    def test_a_day_without_turns_at_the_end(self):
        self.refused(["yard 2 2", "day a 1"], 2)
        self.refused(WHOLE + ["day c 1"], 13)
        self.refused(WHOLE[:7], 7)

    def test_a_row_without_signs(self):
        for number in range(1, len(WHOLE) + 1):
            self.refused(WHOLE[:number] + [""] + WHOLE[number:], number)

    def test_a_line_end_at_the_end(self):
        for count in (1, 6, 7, 8, 9, 12):
            self.refused(WHOLE[:count] + [""], count)
            self.refused(WHOLE[:count] + ["", ""], count)

    def test_the_first_of_several_is_told(self):
        self.refused(self.changed(2, "x") + ["x"], 2)
        self.refused(["yard 0 0", "x"], 0)
        self.refused(WHOLE[:3] + ["night", "day a 0"], 3)
        self.refused(WHOLE[:7] + ["x", "day c 1"], 7)
        self.refused(self.changed(9, "ray 1 1 0") + ["day c 1"], 9)


class Show(Case):
    def test_yards_that_were_made(self):
        yard = Yard(3, 2, [thing_of("post", [0, -4, 2])], [("june", 7, [None, (-1, 0, 5)])])
        self.assertEqual(show_yard(yard), "yard 3 2\npost 0 -4 2\nday june 7\nnight\nray -1 0 5")
        self.assertEqual(show_yard(Yard(20, 1, [], [])), "yard 20 1")

    def test_by_chance(self):
        chance = random.Random(111)
        for k in range(40):
            turns = [chance.randint(1, 24) for day in range(chance.randint(0, 12))]
            yard = yard_by(chance, chance.randint(1, 20), chance.randint(1, 20), chance.randint(0, 40), turns)
            text = show_yard(yard)
            other = self.read(text.split("\n"))
            self.assertEqual((other.width, other.height, other.days), (yard.width, yard.height, yard.days))
            self.assertEqual([thing.shown() for thing in other.things], [thing.shown() for thing in yard.things])

    def test_two_readings_are_apart(self):
        text = "\n".join(WHOLE)
        one, other = read_yard(text), read_yard(text)
        self.assertIsNot(one.days[0][2], other.days[0][2])
        self.assertEqual(hours(one), hours(other))
