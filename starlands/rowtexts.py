"""Texts of rows: pairs of a land and a cell written out and read."""

from starlands.checks import LAST_LAND, MOST_CELLS, MOST_TRIES, check_tries
from starlands.errors import InvalidText, NotText
from starlands.texts import number_end


def write_row(row):
    """The text of pairs of a land and a cell."""
    check_tries(LAST_LAND + 1, MOST_CELLS, row)
    return " ".join([f"{land}>{cell}" for land, cell in row])


def read_row(text):
    """The pairs that a text names."""
    if not isinstance(text, str):
        raise NotText("not a string")
    words = read_words(text)
    if len(words) % 3 != 0:
        raise InvalidText(len(text))
    return tuple([(int(words[at]), int(words[at + 2])) for at in range(0, len(words), 3)])


def read_words(text):
    """The words of a text: by turns a land, a sign and a cell."""
    words = []
    at = 0
    while at < len(text):
        end = max(at + 1, number_end(text, at))
        if text[at] != " ":
            if not may_come(text[at:end], len(words)):
                raise InvalidText(at)
            words.append(text[at:end])
        at = end
    return words


def may_come(word, many):
    """Whether a word may come behind so many."""
    if many == 3 * MOST_TRIES:
        return False
    if many % 3 == 1:
        return word == ">"
    highest = LAST_LAND if many % 3 == 0 else MOST_CELLS - 1
    # Numbers are held against what is written for them: so none with a 0 ahead is let through.
    return word in [str(number) for number in range(highest + 1)]
