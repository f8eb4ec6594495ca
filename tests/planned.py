"""Plans that several tests ask about; plans by chance, and what they tell, gone through otherwise than the program."""

import re
import unittest

from hourtable.errors import NoPlan, NoText
from hourtable.nets import is_net
from hourtable.plans import net_by
from tests.samples import is_plain, refused

# Line a goes from p by q and r to s, line b from s by r and q to p.
TWO = ("beat 60", "line a p 10 q 12 r 14 s", "line b s 15 r 13 q 11 p")
RIDES = ((0, 1, 10, 10, 0), (1, 2, 0, 0, 0), (2, 3, 12, 12, 0), (3, 4, 0, 0, 0), (4, 5, 14, 14, 0),
         (6, 7, 15, 15, 0), (7, 8, 0, 0, 0), (8, 9, 13, 13, 0), (9, 10, 0, 0, 0), (10, 11, 11, 11, 0))
# One row of each kind behind them.
ROWS = ("line c r 3 t", "stay a q 2 5 7", "change a b q 3 20 8", "apart a b r 4", "meet a b q r 1")

NAME = "[a-z]{1,8}"
NUMBER = "(?:0|[1-9][0-9]{0,59})"
FIRST = re.compile(f"beat ({NUMBER})")
OTHERS = re.compile(f"line {NAME} {NAME}(?: {NUMBER} {NAME})+|stay {NAME} {NAME}(?: {NUMBER}){{3}}"
                    f"|change(?: {NAME}){{3}}(?: {NUMBER}){{3}}|apart(?: {NAME}){{3}} {NUMBER}"
                    f"|meet(?: {NAME}){{4}} {NUMBER}")


def text_of(*rows):
    return "\n".join(rows)


class PlanCase(unittest.TestCase):
    def told(self, text, net, labels=None):
        told = net_by(text)
        self.assertEqual(told[0], net)
        if labels is not None:
            self.assertEqual(told[1], labels)
        self.assertEqual(len(told), 2)
        self.assertTrue(is_plain(told))
        self.assertIs(is_net(told[0]), True)
        self.assertEqual(len(told[1]), told[0][1])

    def told_between(self, *rows_and_spans):
        """Hold that rows behind the two lines' tell spans behind theirs: rows, then as many spans."""
        many = len(rows_and_spans) // 2
        self.told(text_of(*TWO, *rows_and_spans[:many]), (60, 12, RIDES + rows_and_spans[many:]))

    def no_text(self, text):
        with self.subTest(text=text):
            refused(self, NoText, net_by, text)

    def no_plan(self, row, *rows):
        with self.subTest(rows=rows):
            refusal = refused(self, NoPlan, net_by, text_of(*rows))
            self.assertEqual(refusal.row, row)
            self.assertIs(type(refusal.row), int)


def labels_within(lines):
    """The labels of lines, told as a dict of their names and stops."""
    labels = []
    for name, stops in lines.items():
        for place, stop in enumerate(stops):
            labels += [(name, stop, "comes")] * (place > 0) + [(name, stop, "goes")] * (place < len(stops) - 1)
    return labels


def is_right_span(beat, span):
    least, most, weight = span[2:]
    return 0 <= least <= most < least + beat and max(least, most) < 10 ** 60 and weight <= 10 ** 12


class Told:
    """What the rows of a plan have told, by labels in the place of numbers."""

    def __init__(self, beat):
        self.beat = beat
        self.lines = {}
        self.runs = {}
        self.stays = {}
        self.between = []

    def labels(self):
        return labels_within(self.lines)

    def own_spans(self):
        spans = []
        for name, stops in self.lines.items():
            for place, stop in enumerate(stops):
                if 0 < place < len(stops) - 1:
                    ends = ((name, stop, "comes"), (name, stop, "goes"))
                    spans.append(ends + self.stays.get((name, stop), (0, 0, 0)))
                if place < len(stops) - 1:
                    run = self.runs[name, stop, stops[place + 1]]
                    spans.append(((name, stop, "goes"), (name, stops[place + 1], "comes"), run, run, 0))
        return spans

    def put_line(self, words):
        name, stops = words[1], words[2::2]
        if name in self.lines or any(stops.count(stop) > 1 for stop in stops):
            return False
        self.lines[name] = stops
        for place, run in enumerate(words[3::2]):
            self.runs[name, stops[place], stops[place + 1]] = int(run)
        return True

    def put_stay(self, words):
        name, stop = words[1:3]
        ends = ((name, stop, "comes"), (name, stop, "goes"))
        if (name, stop) in self.stays or not set(ends) <= set(self.labels()):
            return False
        self.stays[name, stop] = tuple(int(word) for word in words[3:])
        return is_right_span(self.beat, ends + self.stays[name, stop])

    def put_between(self, words):
        one, other, stop = words[1:4]
        numbers = [int(word) for word in words[4:] if word.isdigit()]
        if words[0] == "change":
            span = ((one, stop, "comes"), (other, stop, "goes"), *numbers)
        elif words[0] == "apart":
            span = ((one, stop, "goes"), (other, stop, "goes"), numbers[0], self.beat - numbers[0], 0)
        else:
            ride, back = self.runs.get((one, stop, words[4])), self.runs.get((other, words[4], stop))
            if ride is None or back is None:
                return False
            span = ((one, stop, "goes"), (other, words[4], "goes"), ride + numbers[0], self.beat - back - numbers[0], 0)
        self.between.append(span)
        return one != other and set(span[:2]) <= set(self.labels()) and is_right_span(self.beat, span)

    def put(self, words):
        kinds = {"line": self.put_line, "stay": self.put_stay}
        return (kinds.get(words[0], self.put_between)(words) and len(self.labels()) <= 16
                and len(self.own_spans() + self.between) <= 40)


def told_otherwise(text):
    """The tuple (net, labels) of a plan's text, or "no text", or the row's number of NoPlan."""
    rows = text.split("\n")
    first = FIRST.fullmatch(rows[0])
    if not first or not all(OTHERS.fullmatch(row) for row in rows[1:]):
        return "no text"
    told = Told(int(first[1]))
    if told.beat == 0:
        return 0
    for number, row in enumerate(rows[1:], 1):
        if not told.put(row.split(" ")):
            return number
    labels = told.labels()
    spans = tuple((labels.index(start), labels.index(goal), *rest)
                  for start, goal, *rest in told.own_spans() + told.between)
    return ((told.beat, len(labels), spans), tuple(labels)) if labels else 0


def width_by_chance(chance, beat):
    """A least and a most by chance, now and then none of a span."""
    least = chance.choice((0, 1, chance.randrange(2 * beat)))
    width = chance.choice((0, 1, 2, beat // 2, beat - 1, beat, chance.randrange(beat), -1))
    return f"{least} {max(least + width, 0)}"


def row_by_chance(chance, beat, lines):
    """A row of one of the four kinds that stand behind lines, told as a dict; perhaps it can't stand there."""
    kind = chance.choice(("stay", "change", "apart", "meet"))
    one, other = chance.choice(list(lines)), chance.choice(list(lines))
    stop = chance.choice(lines[one])
    weight = chance.choice((0, 1, 5, 10 ** 12, 10 ** 12 + 1))
    if kind == "stay":
        return f"stay {one} {stop} {width_by_chance(chance, beat)} {weight}"
    if kind == "change":
        return f"change {one} {other} {stop} {width_by_chance(chance, beat)} {weight}"
    if kind == "apart":
        return f"apart {one} {other} {stop} {chance.randint(0, beat // 2 + 1)}"
    after = lines[one][(lines[one].index(stop) + 1) % len(lines[one])]
    return f"meet {one} {other} {stop} {after} {chance.randint(0, beat // 3)}"


def plan_by_chance(chance, beat, many, most):
    """The text of a plan with so many lines over a few stops, and behind them rows by chance, at most so many.

    All rows can stand where they do.
    """
    lines = {}
    text = f"beat {beat}"
    for name in chance.sample(["a", "b", "ab", "line", "beat", "abcdefgh"], many):
        stops = chance.sample(["p", "q", "r", "stay"], chance.randint(2, 4))
        if lines and chance.random() < 0.5:
            stops = chance.choice(list(lines.values()))[::-1]
        runs = "".join(f" {chance.randrange(beat)} {stop}" for stop in stops[1:])
        row = f"\nline {name} {stops[0]}{runs}"
        if told_otherwise(text + row) == text.count("\n") + 1:
            break
        text += row
        lines[name] = stops
        for _ in range(10 * most // many):
            row = "\n" + row_by_chance(chance, beat, lines)
            if text.count("\n") < most + len(lines) and isinstance(told_otherwise(text + row), tuple):
                text += row
    return text


def bent(chance, text):
    """The text with one sign, one word or one row changed, left out or put in."""
    parted = chance.choice(("", " ", "\n"))
    parts = list(text) if parted == "" else text.split(parted)
    place = chance.randrange(len(parts))
    other = chance.choice(parts + ["0", "1", "a", "", "60"])
    way = chance.randrange(4)
    if way == 0:
        parts[place] = other
    elif way == 1:
        parts.insert(place, other)
    elif way == 2:
        parts.pop(place)
    else:
        again = chance.randrange(len(parts))
        parts[place], parts[again] = parts[again], parts[place]
    return parted.join(parts)
