"""Plans: lines and their stops told in rows, and the net that they come to."""

from hourtable.errors import NoPlan, NoText
from hourtable.nets import MOST_HAPPENINGS, MOST_SPANS, is_span
from hourtable.wholes import read_whole

LETTERS = "abcdefghijklmnopqrstuvwxyz"
MOST_LETTERS = 8
# How many names, and then how many numbers, stand behind the first word of a row.
FORMS = {"stay": (2, 3), "change": (3, 3), "apart": (3, 1), "meet": (4, 1)}
STAY_UNTOLD = (0, 0, 0)


def read_name(word):
    """The word itself where it is a name of a line or a stop, or NoText."""
    if len(word) < 1 or len(word) > MOST_LETTERS or not all([sign in LETTERS for sign in word]):
        raise NoText("a name is a word of one to eight small letters")
    return word


def read_beat(row):
    """The tuple ("beat", beat) that a plan's first row tells, or NoText."""
    words = row.split(" ")
    if len(words) != 2 or words[0] != "beat":
        raise NoText("the first row of a plan is: beat BEAT")
    return ("beat", read_whole(words[1]))


def read_line(words):
    """The tuple ("line", name, stops, runs) that the words of a line row tell, or NoText."""
    if len(words) < 5 or len(words) % 2 == 0:
        raise NoText("the row of a line is: line NAME STOP RUN STOP, perhaps more of RUN STOP behind")
    stops = tuple([read_name(word) for word in words[2::2]])
    runs = tuple([read_whole(word) for word in words[3::2]])
    return ("line", read_name(words[1]), stops, runs)


def read_row(row):
    """The tuple of the first word, the names and the numbers that a row behind the first tells, or NoText."""
    words = row.split(" ")
    if words[0] == "line":
        return read_line(words)
    if words[0] not in FORMS:
        raise NoText("a row behind the first begins with line, stay, change, apart or meet")
    form = FORMS[words[0]]
    behind = 1 + form[0]
    if len(words) != behind + form[1]:
        raise NoText("a row has more words than its first one asks for, or fewer")
    names = [read_name(word) for word in words[1:behind]]
    return tuple(words[:1] + names + [read_whole(word) for word in words[behind:]])


def read_plan(text):
    """The list of what the rows of a text tell, or NoText, of anything."""
    if not isinstance(text, str):
        raise NoText("a plan is read from a text alone")
    rows = text.split("\n")
    return [read_beat(rows[0])] + [read_row(row) for row in rows[1:]]


class Line:
    """A line: its name, its stops, how long it rides behind each but the last, its stays, and its first happening."""

    def __init__(self, name, stops, runs, first):
        self.name = name
        self.stops = stops
        self.runs = runs
        self.stays = {}
        self.first = first

    def coming(self, stop):
        """The happening when it comes to a stop, or None where it doesn't."""
        return self.first + 2 * self.stops.index(stop) - 1 if stop in self.stops[1:] else None

    def going(self, stop):
        """The happening when it goes from a stop, or None where it doesn't."""
        return self.first + 2 * self.stops.index(stop) if stop in self.stops[:-1] else None

    def ride(self, stop, after):
        """How long it rides from a stop to its next one, or None where the other stop isn't that."""
        for here, there, run in zip(self.stops, self.stops[1:], self.runs):
            if here == stop and there == after:
                return run
        return None

    def own_spans(self):
        """The list of its rides and stays, in the order in which it meets them."""
        spans = []
        for here, there, run in zip(self.stops, self.stops[1:], self.runs):
            spans.append((self.going(here), self.coming(there), run, run, 0))
            if there != self.stops[-1]:
                spans.append((self.coming(there), self.going(there)) + self.stays.get(there, STAY_UNTOLD))
        return spans

    def own_labels(self):
        """The list of the labels of its happenings."""
        labels = []
        for here, there in zip(self.stops, self.stops[1:]):
            labels.append((self.name, here, "goes"))
            labels.append((self.name, there, "comes"))
        return labels


def change_span(one, other, row):
    """The span of a change row, its ends None where the lines don't come or go there."""
    return (one.coming(row[3]), other.going(row[3]), row[4], row[5], row[6])


def apart_span(beat, one, other, row):
    """The span of an apart row, its ends None where the lines don't go there."""
    return (one.going(row[3]), other.going(row[3]), row[4], beat - row[4], 0)


def meet_span(beat, one, other, row):
    """The span of a meet row, or None where the lines don't ride so."""
    ride = one.ride(row[3], row[4])
    back = other.ride(row[4], row[3])
    if ride is None or back is None:
        return None
    return (one.going(row[3]), other.going(row[4]), ride + row[5], beat - back - row[5], 0)


class Plan:
    """What the rows of a plan have told, as far as they are gone through."""

    def __init__(self, beat):
        self.beat = beat
        self.lines = {}
        self.between = []

    def happenings(self):
        """How many happenings there are."""
        return sum([2 * len(line.runs) for line in self.lines.values()])

    def all_spans(self):
        """The list of all spans: each line's own, then those between two lines."""
        spans = []
        for line in self.lines.values():
            spans.extend(line.own_spans())
        return spans + self.between

    def all_labels(self):
        """The list of the labels of all happenings."""
        labels = []
        for line in self.lines.values():
            labels.extend(line.own_labels())
        return labels

    def is_small(self):
        """Tell whether there are no more happenings and spans than a net has."""
        return self.happenings() <= MOST_HAPPENINGS and len(self.all_spans()) <= MOST_SPANS

    def take_line(self, row):
        """Put a line row to the plan, and tell whether it can stand there."""
        name = row[1]
        stops = row[2]
        if name in self.lines or len(set(stops)) != len(stops):
            return False
        self.lines[name] = Line(name, stops, row[3], self.happenings())
        return self.is_small()

    def take_stay(self, row):
        """Put a stay row to the plan, and tell whether it can stand there."""
        line = self.lines.get(row[1])
        stop = row[2]
        if line is None or stop in line.stays:
            return False
        line.stays[stop] = row[3:]
        # A stop that is no inner one has None for a coming or a going, so there is no span.
        return is_span(self.beat, self.happenings(), (line.coming(stop), line.going(stop)) + row[3:])

    def span_between(self, row):
        """The span that a row of two lines tells; None, or one with None for an end, where they don't ride as told."""
        one = self.lines.get(row[1])
        other = self.lines.get(row[2])
        if one is None or other is None or row[1] == row[2]:
            return None
        if row[0] == "change":
            return change_span(one, other, row)
        if row[0] == "apart":
            return apart_span(self.beat, one, other, row)
        return meet_span(self.beat, one, other, row)

    def take_between(self, row):
        """Put a row of two lines to the plan, and tell whether it can stand there."""
        span = self.span_between(row)
        self.between.append(span)
        return is_span(self.beat, self.happenings(), span) and self.is_small()

    def take(self, row):
        """Put a row to the plan, and tell whether it can stand there."""
        if row[0] == "beat":
            return row[1] >= 1
        if row[0] == "line":
            return self.take_line(row)
        if row[0] == "stay":
            return self.take_stay(row)
        return self.take_between(row)


def plan_by(rows):
    """The plan that these rows tell, or NoPlan."""
    plan = Plan(rows[0][1])
    for number, row in enumerate(rows):
        if not plan.take(row):
            raise NoPlan(number)
    # Behind all rows: a plan without lines may have a row that can't stand there.
    if len(plan.lines) == 0:
        raise NoPlan(0)
    return plan


def net_by(text):
    """The tuple (net, labels) of the plan that is told in a text, or NoText, NoPlan, of anything."""
    plan = plan_by(read_plan(text))
    net = (plan.beat, plan.happenings(), tuple(plan.all_spans()))
    return (net, tuple(plan.all_labels()))
