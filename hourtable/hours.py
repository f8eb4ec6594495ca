"""Hours: the times of a plan's lines at their stops, written as rows."""

from hourtable.leasts import best_for
from hourtable.plans import net_by
from hourtable.tables import moved_by


def hours_by(labels, table):
    """The rows of the hours, one for each line, by the labels of a table's happenings."""
    rows = {}
    for label, time in zip(labels, table):
        words = rows.setdefault(label[0], [label[0]])
        # A stop is named once: ahead of the coming there, and at a line's first stop, without one, of the going.
        if label[2] == "comes" or len(words) == 1:
            words.append(label[1])
        words.append(str(time))
    return [" ".join(words) for words in rows.values()]


def hours_of(text, table):
    """The text of the hours of a plan and a table of its net, or NoText, NoPlan."""
    return "\n".join(hours_by(net_by(text)[1], table))


def timetable(text):
    """The text of the hours that wait least of all that a plan lets by, and what they wait; or none; or a refusal."""
    told = net_by(text)
    net = told[0]
    best = best_for(net)
    if best[0] == "none":
        return "none"
    table = moved_by(net, best[1], -best[1][0])
    wait = best[2]
    return "\n".join(hours_by(told[1], table) + [f"waits {wait}"])
