"""A yard's text, read row by row, and shown again."""

from shadowpost.errors import BadRow, BadThing
from shadowpost.rays import is_ray
from shadowpost.things import thing_of
from shadowpost.words import is_name, numbers_of
from shadowpost.yards import MOST_DAYS, MOST_SIDE, MOST_THINGS, MOST_TIMES, MOST_TURNS, Yard


def numbers_in(words, row):
    numbers = numbers_of(words)
    if numbers is None:
        raise BadRow(row)
    return numbers


def read_size(words, row):
    if words[0] != "yard" or len(words) != 3:
        raise BadRow(row)
    size = numbers_in(words[1:], row)
    if not all([1 <= side <= MOST_SIDE for side in size]):
        raise BadRow(row)
    return size


def read_thing(words, row):
    numbers = numbers_in(words[1:], row)
    try:
        return thing_of(words[0], numbers)
    except BadThing:
        raise BadRow(row) from None


def read_day(words, row):
    if len(words) != 3 or not is_name(words[1]):
        raise BadRow(row)
    times = numbers_in(words[2:], row)[0]
    if not 1 <= times <= MOST_TIMES:
        raise BadRow(row)
    return (words[1], times, [])


def read_turn(words, row):
    if words == ["night"]:
        return None
    if words[0] != "ray" or len(words) != 4:
        raise BadRow(row)
    ray = tuple(numbers_in(words[1:], row))
    if not is_ray(ray):
        raise BadRow(row)
    return ray


def lacks_turns(days):
    return len(days) > 0 and len(days[-1][2]) == 0


def take_thing(words, row, things, days):
    if len(days) > 0 or len(things) == MOST_THINGS:
        raise BadRow(row)
    things.append(read_thing(words, row))


def take_day(words, row, days):
    if lacks_turns(days) or len(days) == MOST_DAYS:
        raise BadRow(row)
    day = read_day(words, row)
    if day[0] in [name for name, times, turns in days]:
        raise BadRow(row)
    days.append(day)


def take_turn(words, row, days):
    if len(days) == 0 or len(days[-1][2]) == MOST_TURNS:
        raise BadRow(row)
    days[-1][2].append(read_turn(words, row))


def take_row(words, row, things, days):
    if words[0] in ("ray", "night"):
        take_turn(words, row, days)
    elif words[0] == "day":
        take_day(words, row, days)
    else:
        take_thing(words, row, things, days)


def read_yard(text):
    rows = [line.split(" ") for line in text.split("\n")]
    size = read_size(rows[0], 0)
    things = []
    days = []
    for row, words in enumerate(rows[1:], start=1):
        take_row(words, row, things, days)
    if lacks_turns(days):
        raise BadRow(len(rows))
    return Yard(size[0], size[1], things, days)


def show_turn(turn):
    if turn is None:
        return "night"
    return " ".join(["ray"] + [str(number) for number in turn])


def show_yard(yard):
    rows = [" ".join(["yard", str(yard.width), str(yard.height)])]
    rows.extend([thing.shown() for thing in yard.things])
    for name, times, turns in yard.days:
        rows.append(f"day {name} {times}")
        rows.extend([show_turn(turn) for turn in turns])
    return "\n".join(rows)
