import re
import unittest
from itertools import product

from starlands.errors import BadTries, InvalidText, NotText
from starlands.rowtexts import read_row, write_row
from tests import plain, wrong

# What a text may name: the first of the pair is what may come there, the other one tells the pairs.
LANDS = ["0", "1", "2", "3", "4"]
CELLS = ["0", "1", "2", "3", "4", "5", "6", "7", "8", "9", "10", "11", "12", "13", "14", "15", "16"]


def read_plainly(text):
    """The pairs, or the place of the first character that is not allowed."""
    found = []
    for match in re.finditer("[0-9]+|[^ ]", text):
        allowed = [LANDS, [">"], CELLS][len(found) % 3]
        if len(found) == 120 or match.group() not in allowed:
            return match.start()
        found.append(match.group())
    if len(found) % 3:
        return len(text)
    return tuple((int(land), int(cell)) for land, cell in zip(found[::3], found[2::3]))


def pairs_of(many, seed):
    numbers = plain.Numbers(seed)
    return tuple((numbers.below(5), numbers.below(17)) for _ in range(many))


class RowtextsTest(unittest.TestCase):
    def check_read(self, text):
        wanted = read_plainly(text)
        if isinstance(wanted, int):
            self.check_place(text, wanted)
        else:
            self.assertEqual(read_row(text), wanted)

    def check_place(self, text, place):
        with self.assertRaises(InvalidText, msg=text) as caught:
            read_row(text)
        self.assertEqual(caught.exception.place, place, text)

    def test_document(self):
        got = [write_row(((0, 3), (2, 11))), read_row(' 0 > 3 2>11'), read_row('')]
        self.assertEqual(got, ['0>3 2>11', ((0, 3), (2, 11)), ()])

    def test_all_pairs_written_and_read(self):
        for pair in product(range(5), range(17)):
            text = f"{pair[0]}>{pair[1]}"
            self.assertEqual(write_row((pair,)), text)
            self.assertEqual(read_row(text), (pair,))

    def test_rows_written_and_read_back(self):
        for many in range(41):
            for seed in range(3):
                row = pairs_of(many, 41 * seed + many)
                text = write_row(row)
                self.assertEqual(text.split(" ") if many else [], [f"{land}>{cell}" for land, cell in row])
                self.assertEqual(read_row(text), row)

    def test_the_empty_row(self):
        self.assertEqual(write_row(()), "")
        for text in ("", " ", "     "):
            self.assertEqual(read_row(text), ())

    def test_40_pairs_and_41(self):
        row = pairs_of(40, 5)
        text = write_row(row)
        self.assertEqual(read_row(text), row)
        self.assertEqual(read_row(f"  {text}  "), row)
        for more in ("0>0", "4", "17>", "9", "000", "4>16 1>1"):
            self.check_place(f"{text} {more}", len(text) + 1)
            self.check_place(f"{text}   {more}", len(text) + 3)
        for more in (">", "x", ">0"):
            self.check_place(text + more, len(text))
        for many in (41, 42, 60):
            with self.assertRaises(BadTries) as caught:
                write_row(((0, 0),) * many)
            self.assertIsNone(caught.exception.index)

    def test_spaces(self):
        row = ((4, 16), (0, 0), (3, 9))
        self.assertEqual(read_row("4>16 0>0 3>9"), row)
        self.assertEqual(read_row("   4   >   16   0   >   0   3   >   9   "), row)
        self.assertEqual(read_row("4 >16 0> 0 3 > 9"), row)
        for text, place in (
            ("4>1 6", 4), ("4>16 0>03>9", 7), ("4>160>0", 2), ("4>16 0>0 3>9 1 6", 15), ("4 > 1 6 > 2 2", 6),
        ):
            self.check_place(text, place)
        for blank in ("\t", "\n", "\r", "\x0b", "\u00a0", "\u2003", "_"):
            self.check_place(f"4>16{blank}0>0", 4)
            self.check_place(f"{blank}4>16", 0)
            self.check_place(f"4>{blank}16", 2)

    def test_cells_of_one_and_two_digits(self):
        for cell in range(17):
            self.assertEqual(read_row(f"1>{cell}"), ((1, cell),))
            self.assertEqual(read_row(f" 1 > {cell} 2>{cell} "), ((1, cell), (2, cell)))
        for number in ("17", "18", "19", "20", "99", "00", "01", "09", "010", "016", "100", "000", "1234567890" * 600):
            self.check_place(f"1>{number}", 2)
            self.check_place(f"1 >  {number} 2>2", 5)
            self.check_place(f"0>10 1>{number}", 7)

    def test_lands_of_one_digit(self):
        for number in ("5", "6", "9", "00", "01", "10", "40", "123", "9" * 5000):
            self.check_place(number, 0)
            self.check_place(f"{number}>1", 0)
            self.check_place(f"0>1  {number}>1", 5)

    def test_each_place_at_which_a_character_is_not_allowed(self):
        for text, place in (
            (">", 0), ("x", 0), ("-1>0", 0), ("0", 1), ("0 ", 2), ("0>", 2), ("0> ", 3), ("0>>", 2), ("0x", 1),
            ("0 0", 2), ("0>x", 2), ("0>-1", 2), ("0>1>", 3), ("0>1x", 3), ("0>1 1", 5), ("0>1 1>", 6), ("0>1 1>  ", 8),
            ("0>1,1>1", 3),
            ("0>1 >1", 4), ("0>1 1 1", 6), ("0>1 1>1>1", 7), ("0>1.", 3), ("+0>1", 0), ("0=>1", 1), ("0>1 1>2 x", 8),
            ("0>1\n", 3), ("0|1", 1), ("(0>1)", 0), ("0>\u0661", 2), ("\u0661>1", 0), ("0>1\u00b2", 3), ("\u00b2", 0),
            ("0>\u00b2", 2), ("0 12>1", 2), ("0 1>1", 2), ("0 99", 2),
        ):
            self.assertEqual(read_plainly(text), place, text)
            self.check_place(text, place)

    def test_texts_that_end_too_early(self):
        text = write_row(pairs_of(3, 2))
        for end in range(len(text)):
            self.check_read(text[:end])
            self.check_read(f"{text[:end]}   ")
        self.check_place("0>3 2", 5)
        self.check_place("0>3 2>", 6)
        self.check_place("0>3 2>  ", 8)

    def test_all_short_texts(self):
        for many in range(6):
            for signs in product("0 >17", repeat=many):
                self.check_read("".join(signs))

    def test_texts_with_one_other_sign(self):
        text = " 0 > 12 3>4  2>0"
        for at in range(len(text) + 1):
            for sign in ["", " ", ">", "0", "1", "6", "9", "x", "-", "\n", "\u0663"]:
                self.check_read(text[:at] + sign + text[at:])
                self.check_read(text[:at] + sign + text[at + 1:])

    def test_texts_by_chance(self):
        numbers = plain.Numbers(8)
        rights = 0
        for _ in range(3000):
            words = [numbers.pick([LANDS, [">"], CELLS][at % 3]) for at in range(3 * numbers.below(5))]
            if words and numbers.below(2):
                words[numbers.below(len(words))] = numbers.pick(["", ">", "5", "17", "00", "x", "1"])
            text = "".join(word + " " * numbers.below(3) for word in words)
            self.check_read(text)
            rights += not isinstance(read_plainly(text), int)
        self.assertGreater(rights, 500)

    def test_values_that_are_no_text(self):
        for value in wrong.EVERYTHING + [b"0>3"]:
            if not isinstance(value, str):
                self.assertRaises(NotText, read_row, value)

    def test_the_first_wrong_pair(self):
        for row, index in (
            (((5, 0),), 0), (((0, 17),), 0), (((4, 16), (4, 16), (-1, 0)), 2), (((0, 0), (0, -1)), 1), (((0, 0), 5), 1),
            (((0, 0),) * 39 + ((0, 17),), 39), (((True, 0),), 0), (((0, False),), 0), (([0, 0],), 0), ((0, 0), 0),
            ([(0, 0)], None), ("0>3", None), (None, None), ({0: 3}, None), (((0, 0),) * 40 + (None,), None),
        ):
            with self.assertRaises(BadTries) as caught:
                write_row(row)
            self.assertEqual(caught.exception.index, index)

    def test_wrong_inputs(self):
        wrong.check_wrong(self, write_row, wrong.tries(5, 17, ((4, 16), (0, 0))))


if __name__ == "__main__":
    unittest.main()
