"""Texts: maps written out and read."""

from starlands.checks import LAST_LAND, MOST_ARMS, MOST_LENGTH, check_chart, is_chart
from starlands.errors import InvalidText, NotText
from starlands.islands import arm_rows, joined_map

DIGITS = "0123456789"


def write_chart(chart):
    """The text of a map: the hub's land, and the lands of each arm's cells, outward."""
    check_chart(chart)
    parts = [chart[1][:1]] + arm_rows(chart)
    return " | ".join([" ".join([str(land) for land in part]) for part in parts])


def read_chart(text):
    """The map that a text names."""
    if not isinstance(text, str):
        raise NotText("not a string")
    parts = read_parts(text)
    if len(parts) < 4 or not is_full(parts):
        raise InvalidText(len(text))
    chart = joined_map(parts[0][0], parts[1:])
    if not is_chart(chart):
        raise InvalidText(len(text))
    return chart


def read_parts(text):
    """The lands of a text's parts, as lists: the hub, then the arms."""
    parts = [[]]
    at = 0
    while at < len(text):
        end = at + 1
        if text[at] == "|":
            if len(parts) > MOST_ARMS or not is_full(parts):
                raise InvalidText(at)
            parts.append([])
        elif text[at] != " ":
            end = number_end(text, at)
            if end != at + 1 or int(text[at]) > LAST_LAND or not has_room(parts):
                raise InvalidText(at)
            parts[-1].append(int(text[at]))
        at = end
    return parts


def number_end(text, start):
    """The index behind the number that begins at the start; the start itself if there is no digit."""
    end = start
    while end < len(text) and text[end] in DIGITS:
        end += 1
    return end


def room_of(parts):
    """How many cells the last part may have: the hub is one, the other arms are as long as the first."""
    if len(parts) == 1:
        return 1
    return MOST_LENGTH if len(parts) == 2 else len(parts[1])


def has_room(parts):
    """Whether a number may come."""
    return len(parts[-1]) < room_of(parts)


def is_full(parts):
    """Whether the last part may end here; the first arm may at any length."""
    return len(parts[-1]) == room_of(parts) or len(parts) == 2 and parts[1] != []
