"""Logs and plans as texts."""

from widestparcels.errors import BadNumber, BadText
from widestparcels.log import Log
from widestparcels.road import Road
from widestparcels.rows import is_row
from widestparcels.widths import Widths
from widestparcels.words import read_number

# The console reads these words, too.
ANSWERS = {"yes": True, "no": False}


def write_log(log):
    """Return the log as a text: the widths, the losses, and a line for each pair."""
    widths = " ".join([str(width) for width in log.road.widths])
    kind = "row" if log.road.in_a_row else "all"
    lines = [f"widths {widths}\n", f"losses {log.road.losses} {kind}\n"]
    for probe, answered in log:
        answer = "yes" if answered else "no"
        lines.append(f"probe {probe} {answer}\n")
    return "".join(lines)


def read_log(text):
    """Return the log that a text tells."""
    lines, rest = _lines_of(text)
    for at, words in enumerate(lines):
        if not _is_log_line(at, words):
            raise BadText(at + 1)
    # A line that is missing and one that lacks its newline have the same number: the next one.
    if len(lines) < 2 or rest != "":
        raise BadText(len(lines) + 1)
    numbers = [int(word) for word in lines[0][1:]]
    _, losses, kind = lines[1]
    pairs = [(int(probe), ANSWERS[answer]) for _, probe, answer in lines[2:]]
    road = Road(Widths(*numbers), int(losses), in_a_row=kind == "row")
    return Log(road, *pairs)


def write_plan(plan):
    """Return the plan as a text: a line for each row, in ascending order of the rows."""
    lines = []
    for row in _ascending(plan):
        numbers = ",".join([str(number) for number in row])
        lines.append(f"{numbers} {plan[row]}\n")
    return "".join(lines)


def read_plan(text):
    """Return the plan that a text tells."""
    lines, rest = _lines_of(text)
    plan = {}
    for at, words in enumerate(lines):
        row = _row_of(words[0])
        if len(words) != 2 or row is None or row in plan or not tells_number(words[1]):
            raise BadText(at + 1)
        plan[row] = int(words[1])
    if rest != "":
        raise BadText(len(lines) + 1)
    return plan


def tells_number(word):
    """Tell whether the word is a number that read_number reads."""
    try:
        read_number(word)
    except BadNumber:
        return False
    return True


def _lines_of(text):
    """Return the words of each line that ends with a newline, and what stands behind the last newline."""
    lines = text.split("\n")
    rest = lines.pop()
    return [line.split(" ") for line in lines], rest


def _is_log_line(at, words):
    """Tell whether the words have the form of the line at this place of a log."""
    if at == 0:
        return words[0] == "widths" and len(words) > 1 and all([tells_number(word) for word in words[1:]])
    if len(words) != 3 or not tells_number(words[1]):
        return False
    if at == 1:
        return words[0] == "losses" and words[2] in ("all", "row")
    return words[0] == "probe" and words[2] in ANSWERS


def _row_of(word):
    """Return the row whose numbers the word tells, or None if it tells no row."""
    numbers = word.split(",")
    if not all([tells_number(number) for number in numbers]):
        return None
    row = tuple([int(number) for number in numbers])
    if not is_row(row):
        return None
    return row


def _ascending(rows):
    """Return the list of the rows in ascending order."""
    # Beside a class with an order, sorted takes only what is plainly numbers or strings.
    found = []
    for row in rows:
        low = 0
        high = len(found)
        while low < high:
            middle = (low + high) // 2
            if found[middle] < row:
                low = middle + 1
            else:
                high = middle
        found.insert(low, row)
    return found
