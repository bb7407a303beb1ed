import re
import unittest
from itertools import product

from starlands.errors import InvalidText, NotText
from starlands.texts import read_chart, write_chart
from tests import plain, wrong

WARM = (3, (0, 0, 0, 0, 1, 2, 2))

# The shapes of all whole texts: n stands for a number.
SHAPES = ["|".join(["n"] + ["n" * length] * arms) for arms in (3, 4) for length in (1, 2, 3, 4)]


def tokens(text):
    """The numbers of a text and its other characters but spaces, each with its place."""
    return [(found.start(), found.group()) for found in re.finditer("[0-9]+|[^ ]", text)]


def shape_of(words):
    return "".join("n" if word in ("0", "1", "2", "3", "4") else word if word == "|" else "?" for _, word in words)


def read_slowly(text):
    """The map of a text, or the place of its fault: the first token with which no whole text begins."""
    words = tokens(text)
    for many in range(1, len(words) + 1):
        shape = shape_of(words[:many])
        if not any(whole.startswith(shape) for whole in SHAPES):
            return words[many - 1][0]
    shape = shape_of(words)
    if shape not in SHAPES:
        return len(text)
    numbers = tuple(int(word) for _, word in words if word != "|")
    chart = (shape.count("|"), numbers)
    return chart if plain.is_map(chart) else len(text)


def read(text):
    try:
        return read_chart(text)
    except InvalidText as error:
        return error.place


class TextsTest(unittest.TestCase):
    def test_document(self):
        self.assertEqual(write_chart(WARM), "0 | 0 0 | 0 1 | 2 2")
        self.assertEqual(read_chart("0|0 0|0 1|2 2"), WARM)
        self.assertEqual(read("0|1|0|0|0|"), 9)
        self.assertEqual(write_chart((3, (0, 0, 1, 2, 2, 0, 0))), "0 | 0 1 | 2 2 | 0 0")

    def test_there_and_back(self):
        for chart in plain.every_some_map():
            text = write_chart(chart)
            self.assertEqual(read_chart(text), chart)
            self.assertEqual(text, " | ".join(
                " ".join(map(str, row)) for row in [chart[1][:1]] + plain.rows_of(chart)
            ))
            for other in (text.replace(" | ", "|"), text.replace(" ", "   "), f"  {text}  ", text.replace(" |", "|")):
                self.assertEqual(read_chart(other), chart)

    def test_all_small_maps_there_and_back(self):
        texts = set()
        for size in plain.SMALL_SIZES:
            for chart in plain.all_maps(*size):
                texts.add(write_chart(chart))
                self.assertEqual(read_chart(write_chart(chart)), chart)
        self.assertEqual(len(texts), sum(len(plain.all_maps(*size)) for size in plain.SMALL_SIZES))

    def test_spaces(self):
        self.assertEqual(read_chart("0|0|0|1"), (3, (0, 0, 0, 1)))
        self.assertEqual(read_chart("   0  |   0|0   |1 "), (3, (0, 0, 0, 1)))
        self.assertEqual(read_chart(" " * 500 + "0|0|0|1" + " " * 500), (3, (0, 0, 0, 1)))
        self.assertEqual(read("0|00|0 1|2 2"), 2)
        for other in "\t\n\r\x0b\x0c\x1c\x85\xa0\u2003\u3000":
            self.assertEqual(read(f"0{other}|0|0|1"), 1)
            self.assertEqual(read(f"0|0|0|1{other}"), 7)
            self.assertEqual(read(f"{other}0|0|0|1"), 0)

    def test_each_place_at_which_a_first_character_is_not_allowed(self):
        faults = {
            # A number of more than one digit, or greater than 4.
            "00|0|0|1": 0, " 10|0|0|1": 1, "0|01|0|1": 2, "0|0 10|0 0": 4, "5|0|0|1": 0, "0|0|0|9": 6, "0|0|0|100": 6,
            "0|0 0|0 6|": 8, "0|0|0|01": 6, "0123": 0,
            # Anything but a "|" behind the hub.
            "0 0|0|0|1": 2, "0 x": 2, "0-": 1, "0 12": 2, "00": 0,
            # A "|" behind an arm without a cell, behind one shorter than the first, or behind the fourth.
            "|": 0, "0||": 2, "0|0||": 4, "0| |0": 3, "0|0 0|0|": 7, "0|0 0|0 1|2|": 11, "0|1|0|0|0|": 9,
            "0|1 1|0 0|0 0|0 0 |": 18, "0|0|0|1||": 8,
            # A number behind an arm of four cells, or of as many as the first one.
            "0|0 0 0 0 0": 10, "0|0 0 0 0 55": 10, "0|0|0 1": 6, "0|0 0|0 0|0 1 1": 14, "0|0|0|1|0 0": 10,
            # Other characters.
            "x": 0, "-1|0|0|1": 0, "0|-1": 2, "0,0|0|1": 1, "0|0|0|+1": 6, "0|0|0|1.": 7, "0|a": 2, "0|0|0|1|x": 8,
            "\u0660|0|0|1": 0, "0|\u00b2": 2, "0|0\u0661|0|1": 3, "0|\uff11|0|1": 2, "0|0\u0661": 3, "0|0|0|0_1": 7,
        }
        for text, place in faults.items():
            self.assertEqual(read(text), place, text)
            self.assertEqual(read_slowly(text), place, text)

    def test_texts_that_end_too_early(self):
        for text in (
            "", " ", "   ", "0", "0 ", "0|", "0| ", "0|0", "0|0|", "0|0|0", "0|0|0 ", "0|0|0|", "0|0|0|  ", "0|0|0|1|",
            "0|0|0|1| ", "0|0 0|0 0|0", "0|0 0|0 0|0 ", "0|0 0|0", "0|0 0 0 0|", "0 | 0 0 | 0 1 | 2 2 | 1",
        ):
            self.assertEqual(read(text), len(text), text)
        for chart in plain.every_some_map(2):
            text = write_chart(chart)
            for end in range(len(text)):
                start = text[:end]
                self.assertEqual(read(start), read_slowly(start), start)
                # With three arms it may be whole, and a map, too.
                if start.count("|") < 3:
                    self.assertEqual(read(start), end, start)

    def test_texts_that_are_whole_but_no_map(self):
        for text in (
            "0|0|0|0", "1|1|1|1", "0|0|0|2", "0|1|0|1", "0|1|2|3", "0|1|0|2", "0|0 1|0 1|0 0", "0|0 1|1 1|0 0",
            "0|1 0|0 0|0 0", "0|0 0|0 3|2 2", "0|0 4|0 0|0 0", "1|1 1|2 2|1 1", "0|0|0|0|0", "0|0|0|1|1", " 0|0|0|2  ",
        ):
            self.assertEqual(read(text), len(text), text)
            self.assertEqual(read_slowly(text), len(text), text)

    def test_all_short_texts(self):
        for many in range(8):
            for letters in product("01| ", repeat=many):
                text = "".join(letters)
                self.assertEqual(read(text), read_slowly(text), text)
        for many in range(6):
            for letters in product("02|5 x", repeat=many):
                text = "".join(letters)
                self.assertEqual(read(text), read_slowly(text), text)

    def test_whole_texts_with_one_fault(self):
        numbers = plain.Numbers(11)
        seen = {"map": 0, "end": 0, "inside": 0}
        for chart in plain.every_some_map(3):
            text = write_chart(chart)
            for _ in range(40):
                at = numbers.below(len(text) + 1)
                new = numbers.pick(["", "0", "1", "2", "4", "5", "|", " ", "  ", "12", "a", "| ", " 3 "])
                other = text[:at] + new + text[at + numbers.below(3):]
                got = read(other)
                self.assertEqual(got, read_slowly(other), other)
                seen["map" if isinstance(got, tuple) else "end" if got == len(other) else "inside"] += 1
        self.assertGreater(min(seen.values()), 100)

    def test_wrong_inputs(self):
        wrong.check_wrong(self, write_chart, wrong.chart())
        wrong.check_wrong(self, read_chart, wrong.text())
        for value in (None, 0, True, ("0|0|0|1",), ["0|0|0|1"], {"0|0|0|1": 1}, b"0|0|0|1", WARM):
            self.assertRaises(NotText, read_chart, value)


if __name__ == "__main__":
    unittest.main()
