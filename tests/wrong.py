"""Wrong values of every kind in the place of each argument."""

from copy import deepcopy

from starlands.errors import (
    BadAreas, BadArms, BadCell, BadCells, BadCount, BadLand, BadLands, BadLength, BadMap, BadMaps, BadOrders, BadPairs,
    BadPlaces, BadPrices, BadRow, BadRows, BadRule, BadTaking, BadTold, BadTries, BadValues, InvalidText, NotFrozen,
    NotOne, NotText,
)
from tests import plain

MAP = (3, (0, 0, 0, 0, 1, 2, 2))

# Each kind of argument leaves out what is right for it.
INTEGERS = [-10 ** 30, -101, -1, 0, 1, 2, 3, 4, 5, 6, 7, 12, 13, 17, 31, 61, 101, 10 ** 30]
WORDS = ["", "0", "ab", "(0, 0)", True, False, None]
TUPLES = [
    (), (0,), (True,), (0, True), (False, 0), (True, 3), ("0", 0), (None, 0), (0, None), (0, 0, 0), (0, 1, 2, 3),
    ((),), ((True,),), ((), ()), ([], [], []), ({}, {}, {}), ("", "", ""), ("00", "00", "00"), (None, None, None),
    ((0, 0), (0, 0)), ((True, 0), (0, 0), (0, 1)), ((0, 0), (0, 0), [0, 1]), ((0, 0), (0, 0), (0, "1")),
    ((0, 0), (0, 0), (0, 5)), ((0, 0), (0, 0), (0, -1)), ((0, 0), (0, 0), (0, None)), ((0, 0), (0, 0), (0, (1,))),
    (True, False, True), ((0, [0]),), ((0, {0: 0}),), (0, [0]), (0, {}), ([0], 0), ({0: 0}, 0),
]
LISTS = [[], [0], [0, 0], [1, 3], [[0, 0], [0, 0], [0, 1]], [(1, 3)], [3, (0, 0, 0, 0, 1, 2, 2)], [None], [True]]
DICTS = [{}, {0: 0}, {0: 1, 1: 3}, {"a": None}, {0: [1]}, {0: {1: (2,)}}]
MAPS = [
    (3, [0, 0, 0, 0, 1, 2, 2]), (3, (0, 0, 0, 0, 1, 2)), (3, (0, 0, 0, 0, 1, 2, 2, 2)), (3, (0, 0, 0, 0, 0, 0, 0)),
    (3, (0, 0, 0, 0, 1, 3, 3)), (3, (1, 1, 1, 1, 2, 2, 2)), (3, (0, 1, 0, 0, 0, 2, 2)), (3, (0, 1, 0, 0, 0, 0, 0)),
    (3, (0, 0, 1, 0, 1, 0, 2)), (3, (0, 0, 1, 0, 2, 0, 3)), (3, (0, 0, 0, 0, 1, 2, True)),
    (3, (False, 0, 0, 0, 1, 2, 2)),
    (3, (0, 0, 0, 0, 1, 2, "2")), (3, (0, 0, 0, 0, 1, 2, None)), (3, (0, 0, 0, 0, 1, 2, (2,))),
    (3, (0, 0, 0, 0, 1, 2, [2])),
    (3, (0, 0, 0, 0, -1, 0, 1)), (3, (0, 0, 0, 0, 0, 0, 10 ** 30)), ("3", (0, 0, 0, 0, 1, 2, 2)),
    (True, (0, 0, 0, 0, 1, 2, 2)),
    (2, (0, 0, 0, 0, 1)), (5, (0, 0, 0, 0, 0, 1)), (3, (0, 1)), (3, ()), (3, (0,)), (4, ()), (3, "0000122"),
    (3, {0: 0}), (3, None),
    (3, (0, 0, 0, 0, 1, 2, 2), 0), ((0, 0, 0, 0, 1, 2, 2), 3), (3, 0), (4, (0, 0, 0, 0, 1, 2, 2)),
    (3, (0, 0, 0, 0, 0, 0, 0, 0, 0, 0, 0, 0, 0, 0, 0, 1)), (3, ({}, 0, 0, 0, 1, 2, 2)), (3, (0, 1, 2, 3)),
    (3, (0, 1, 0, 2)), (3, (0, 0, 0, 0, 1, 2, 2, 0)), (3, (0, 0, 0, 0, 0, 1)), (4, (0, 0, 0, 0, 0, 1, 0, 0)),
    (3, (0, 0, 1)), (4, (0, 0, 0, 1)),
]
EVERYTHING = INTEGERS + WORDS + TUPLES + LISTS + DICTS + MAPS


def is_tuple_of(value, right):
    return type(value) is tuple and all(right(thing) for thing in value)


def integers(low, high):
    """A test whether a value is a tuple of integers from low to high."""
    return lambda value: is_tuple_of(value, lambda thing: plain.is_int(thing, low, high))


class Kind:
    """A kind of argument: a right value, which other ones are right, and the error of the rest.

    The error is a class, or a function that gives, for a wrong value, the class and the fields.
    """

    def __init__(self, good, error, is_right, more=()):
        self.good = good
        self.error = error
        self.is_right = is_right
        self.wrong = [value for value in EVERYTHING + list(more) if not is_right(value)]

    def raised(self, value):
        return (self.error, {}) if isinstance(self.error, type) else self.error(value)


def integer(good, error, low, high):
    return Kind(good, error, lambda value: plain.is_int(value, low, high), [low - 1, high + 1])


def arms(good=3, most=4):
    return integer(good, BadArms, 3, most)


def arm():
    return integer(1, BadArms, 0, 2)


def length(good=2, most=4):
    return integer(good, BadLength, 1, most)


def lands(good=3, most=3):
    return integer(good, BadLands, 2, most)


def land(good=1, most=2):
    return integer(good, BadLand, 0, most)


def cell():
    return integer(3, BadCell, 0, 6)


def count(good, low, high):
    return integer(good, BadCount, low, high)


def chart():
    return Kind(MAP, BadMap, plain.is_map)


def like_chart():
    """A map of the island of MAP and with as many lands."""
    unlike = [
        (3, (0, 0, 0, 0, 0, 0, 1)), (3, (0, 0, 0, 0, 0, 0, 0, 0, 1, 2)), (4, (0, 0, 0, 0, 0, 0, 0, 1, 2)),
        (3, (0, 0, 0, 1)),
    ]

    def is_right(value):
        return plain.is_map(value) and plain.size_of(value) == plain.size_of(MAP)
    return Kind((3, (0, 0, 0, 1, 1, 2, 2)), BadMap, is_right, unlike)


def taking():
    def is_right(value):
        if type(value) is not tuple or len(value) != 2:
            return False
        return plain.is_int(value[0], 0, 2) and plain.is_int(value[1], 0, 6)
    return Kind((1, 3), BadTaking, is_right, [(3, 0), (0, 7), (-1, 0), (0, -1), (1, 3, 0)])


def first_wrong(value, is_right):
    """The index of the first thing that is not right behind those before it, None if the value is no tuple."""
    if type(value) is not tuple:
        return None
    return next(at for at in range(len(value)) if not is_right(value[:at], value[at]))


def is_int_pair(value, first, second):
    """Whether the value is a pair of integers from 0 to less than the two."""
    if type(value) is not tuple or len(value) != 2:
        return False
    return plain.is_int(value[0], 0, first - 1) and plain.is_int(value[1], 0, second - 1)


def row():
    def is_right(value):
        return value == () and type(value) is tuple

    def fits(before, value):
        there = MAP
        for made in before:
            there = plain.behind(there, made)
        return is_int_pair(value, 3, 7) and plain.can(there, value)
    more = [((1, 3), (True, 0)), ((1, 4),), ((1, 3), (1, 3)), ((1, 3), [1, 0])]
    return Kind(((1, 3),), lambda value: (BadRow, {"index": first_wrong(value, fits)}), is_right, more)


def rows():
    def is_right(value):
        if not is_tuple_of(value, integers(0, 4)) or len(value) not in (3, 4):
            return False
        return 1 <= len(value[0]) <= 4 and len(set(map(len, value))) == 1
    more = [((0,), (0,), (0, 1)), ((0,) * 5,) * 3, ((), (), ()), ((0, 1),) * 2, ((0, 1),) * 5]
    return Kind(((0, 0), (0, 1), (2, 2)), BadRows, is_right, more)


def orders():
    def is_right(value):
        return is_tuple_of(value, integers(0, 4)) and len(value) in (3, 4)
    more = [((), (1,)), ((), (), (), (), (1,)), ((), (1,), (5,)), ((), (1,), (-1,))]
    return Kind(((), (1,), (2,)), BadOrders, is_right, more)


def places():
    def is_right(value):
        return is_tuple_of(value, integers(0, 1)) and tuple(map(len, value)) == (0, 1, 1)
    more = [
        ((), (1,)), ((), (1,), (0,), ()), ((), (2,), (0,)), ((), (-1,), (0,)), ((), (0, 1), (0,)), ((), (), (0,)),
        ((1,), (0,), (0,)),
    ]
    return Kind(((), (1,), (0,)), BadPlaces, is_right, more)


def values(good=((1,) * 7, (0,) * 7, (-5,) * 7)):
    def is_right(value):
        return is_tuple_of(value, integers(-100, 100)) and tuple(map(len, value)) == (7, 7, 7)
    zeros = (0,) * 7
    more = [
        (zeros,), (zeros,) * 4, (zeros, zeros), (zeros, zeros, (0,) * 6), (zeros, zeros, (0,) * 8),
        [zeros, zeros, zeros],
        (zeros, zeros, [0] * 7), (zeros, zeros, (0,) * 6 + (True,)), (zeros, zeros, (0,) * 6 + ("0",)),
        (zeros, zeros, (0,) * 6 + (None,)), (zeros, zeros, (0,) * 6 + (101,)), (zeros, zeros, (0,) * 6 + (-101,)),
        (zeros, zeros, (0,) * 6 + ((0,),)), {0: zeros, 1: zeros, 2: zeros}, (zeros, zeros, "0000000"),
        (zeros, zeros, None),
        (zeros, zeros, {}),
    ]
    return Kind(good, BadValues, is_right, more)


def map_values():
    """Values for best_map on the island of MAP: of 2 or 3 lands."""
    kind = values()
    two = ((0,) * 7,) * 2
    return Kind(kind.good, BadValues, lambda value: kind.is_right(value) or value == two, kind.wrong)


def told():
    """Told cells of the island of MAP with 3 lands."""
    def fits(before, value):
        return is_int_pair(value, 7, 3) and all(pair[0] < value[0] for pair in before)

    def is_right(value):
        return type(value) is tuple and all(fits(value[:at], value[at]) for at in range(len(value)))
    more = [
        ((0, 0), (0, 1)), ((1, 0), (0, 1)), ((0, 0), (7, 0)), ((0, 0), (6, 3)), ((0, 0), (1, -1)), ((-1, 0), (1, 0)),
        ((0, 0), (1, 1), (1, 1)), ((0, 0), (1, True)), ((0, 0), (True, 1)), ((0, 0), [1, 1]), ((0, 0), (1, 1, 1)),
        ((0, 0), (1,)), ((0, 0), (1, None), (0, 0)), [(0, 0)], {0: 0}, ((0, 0), (2, 0), (4, 0), (3, 0), (9, 9)),
        ((0, 0), "11"), ((0, 0), {1: 1, 2: 2}), ((0, 0), (1, (1,))), ((0, 0), ([], 1)), ((0, 0), (6, 10 ** 30)),
        tuple((cell, 0) for cell in range(8)),
    ]
    return Kind(((0, 0), (6, 2)), lambda value: (BadTold, {"index": first_wrong(value, fits)}), is_right, more)


def rule():
    """Rules for the lands of MAP."""
    def fits(before, value):
        return is_int_pair(value, 3, 3) and value[0] != value[1] and all(pair < value for pair in before)

    def is_right(value):
        return type(value) is tuple and all(fits(value[:at], value[at]) for at in range(len(value)))
    more = [
        ((0, 1), (0, 1)), ((1, 0), (0, 1)), ((0, 1), (1, 1)), ((0, 1), (1, 3)), ((0, 1), (3, 1)), ((0, 1), (-1, 1)),
        ((0, 1), (1, -1)), ((0, 1), (0, 2), (0, 1)), ((0, True),), ((False, 1),), ((0, 1), (1, False)), [(0, 1)],
        ((0, 1), [0, 2]), ((0, 1), (0, 2, 1)), ((0, 1), (0,)), ((0, 1), None), ((0, 1), "02"), ((0, 1), {0: 2, 1: 2}),
        ((0, 1), (0, (2,))), ((0, 1), ({}, 2)), ((0, 1), (2, 10 ** 30), (0, 0)), ((0, 2), (0, 1), (0, 0)),
    ]
    return Kind(((0, 1), (1, 0)), lambda value: (BadRule, {"index": first_wrong(value, fits)}), is_right, more)


def prices(good=(1, 0, 1000)):
    """Prices for the lands of MAP."""
    is_tuple = integers(0, 1000)
    more = [
        (1, 1), (1, 1, 1, 1), [1, 1, 1], (1, 1, -1), (1, 1, 1001), (1, 1, True), (False, 1, 1), (1, 1, "1"),
        (1, 1, None), (1, 1, (1,)), (1, 1, [1]), {0: 1, 1: 1, 2: 1}, "111", (1, 1, 10 ** 30), 3,
    ]
    return Kind(good, BadPrices, lambda value: is_tuple(value) and len(value) == 3, more)


def order(good=(2, 0, 1)):
    """Orders of the lands or the arms of MAP."""
    is_tuple = integers(0, 2)
    more = [
        (0, 1), (0, 1, 2, 3), (0, 1, 1), (1, 2, 3), (0, 1, 3), (-1, 0, 1), [0, 1, 2], (0, 1, "2"), (0, 1, None),
        (False, 1, 2), (0, True, 2), {0: 0, 1: 1, 2: 2}, "012", (0, 1, (2,)), (0, 1, [2]), (0, 1, 2, 2), (0, 0, 1, 2),
    ]
    return Kind(good, BadOrders, lambda value: is_tuple(value) and sorted(value) == [0, 1, 2], more)


def text():
    """Texts of maps; of wrong ones the place is told for strings in which it is at once."""
    places = {"": 0, "0": 1, "ab": 0, "(0, 0)": 0, "0 | 0 0 | 0 1 | 2": 17, "0 | 5": 4, "0\t| 0 1 | 2 2 | 0 0": 1}

    def error(value):
        return (InvalidText, {"place": places[value]}) if type(value) is str else (NotText, {})
    return Kind("0 | 0 0 | 0 1 | 2 2", error, lambda value: False, list(places))


UNLIKE = [
    (3, (0, 0, 0, 0, 0, 0, 1)), (3, (0, 0, 0, 0, 0, 0, 0, 0, 1, 2)), (4, (0, 0, 0, 0, 0, 0, 0, 1, 2)),
    (3, (0, 0, 0, 1)), (3, (0, 0, 0, 0, 0, 1, 2)), (3, (1, 1, 1, 1, 0, 2, 2)), (3, (0, 1, 2, 0, 0, 0, 0)),
    (3, (0, 0, 0, 2, 2, 1, 1)), MAP,
]


def class_chart(first, good, unlike=NotOne):
    """A map of the class of the first one; other maps of its island and with as many lands are NotOne."""
    def is_right(value):
        return plain.is_map(value) and value in plain.walk(first)

    def error(value):
        if not plain.is_map(value):
            return (BadMap, {})
        return (NotOne if plain.size_of(value) == plain.size_of(first) else unlike, {})
    return Kind(good, error, is_right, UNLIKE)


def frozen_chart(good):
    """A frozen map."""
    def is_right(value):
        return plain.is_map(value) and plain.frozen(value)

    def error(value):
        return (NotFrozen if plain.is_map(value) else BadMap, {})
    return Kind(good, error, is_right, UNLIKE)


def maps(good, first=None):
    """A tuple of 1 to 5 maps of the class of the first one, or of the first of themselves."""
    def fits(before, value):
        start = first or (before + (value,))[0]
        return plain.is_map(value) and value in plain.walk(start)

    def is_right(value):
        is_tuple = type(value) is tuple and 1 <= len(value) <= 5
        return is_tuple and all(fits(value[:at], value[at]) for at in range(len(value)))

    def error(value):
        if type(value) is not tuple or not 1 <= len(value) <= 5:
            return (BadMaps, {"index": None})
        return (BadMaps, {"index": first_wrong(value, fits)})
    start = good[0]
    more = [(start,) * 6, [start], {0: start}, start] + [(start, value) for value in UNLIKE + MAPS + WORDS + LISTS]
    more += [(start, start, None, start), (start,) * 4 + (0,), (None,) * 5, (start,) * 5 + (None,), (None,) * 6]
    return Kind(good, error, is_right, more + [(value, start) for value in MAPS])


def followers(good=(0, 1)):
    """Lands of MAP that may follow each other."""
    def is_right(value):
        is_tuple = integers(0, 2)(value) and 1 <= len(value) <= 8
        return is_tuple and all(value[at] != value[at + 1] for at in range(len(value) - 1))

    def error(value):
        is_tuple = type(value) is tuple and 1 <= len(value) <= 8
        return (BadLand if is_tuple else BadRows, {})
    more = [
        (0, 0), (0, 1, 1), (0, 1, 2, 2), (1, 1), (0, 3), (0, -1), (0, 1, 0, 1, 0, 1, 0, 1, 0), (0,) * 9, (None,) * 9,
        (0, 1, 0, 1, 0, 1, 0, 0), (0, "1"), (0, (1,)), (0, [1]), {0: 0}, "01", (0, 1, 2, None), (0, 10 ** 30),
    ]
    return Kind(good, error, is_right, more)


def areas(good=(4, 1, 2), is_summed=False):
    """Areas for the lands of MAP, or of 2 or 3 lands with the sum of its cells."""
    def is_right(value):
        if not integers(1, 17)(value):
            return False
        return len(value) in (2, 3) and sum(value) == 7 if is_summed else len(value) == 3
    more = [
        (1, 6), (1, 1, 1, 4), [4, 1, 2], (4, 1, 2, 0), (0, 5, 2), (18, 1, 1), (4, 1, True), (4, 1, "2"), (4, 1, None),
        (4, 1, (2,)), (4, 1, [2]), {0: 4, 1: 1, 2: 2}, "412", (-1, 4, 4), (4, 1, 10 ** 30), (7,), (4, 1, 1), (4, 1, 3),
        (2, 1, 2, 2), (7, 0), (8, -1),
    ]
    return Kind(good, BadAreas, is_right, more)


def pairs():
    """Pairs of lands of MAP, the lesser first."""
    def is_right(value):
        if not is_tuple_of(value, lambda pair: is_int_pair(pair, 3, 3) and pair[0] < pair[1]):
            return False
        return list(value) == sorted(set(value))
    more = [
        ((0, 1), (0, 1)), ((0, 2), (0, 1)), ((1, 0),), ((0, 1), (2, 1)), ((0, 0),), ((0, 1), (1, 1)), ((0, 3),),
        ((-1, 0),), ((0, 1), (0, 2), (1, 2), (1, 2)), [(0, 1)], ([0, 1],), ((0, True),), ((False, 1),), ((0, "1"),),
        ((0, None),), ((0, 1, 2),), ((0,),), ((0, 1), None), ((0, 1), 2), ("01",), {0: 1}, ((0, (1,)),), ((0, [1]),),
        ((0, {}),), ((0, 10 ** 30),), (0, 1), ((0, 1), ()),
    ]
    return Kind(((0, 1), (0, 2)), BadPairs, is_right, more)


def tries(lands=3, cells=7, good=((1, 3), (1, 0))):
    """Tries for MAP; the pairs of a row that is written are like them, with more lands and cells."""
    def fits(_, value):
        return is_int_pair(value, lands, cells)

    def is_right(value):
        return type(value) is tuple and len(value) <= 40 and all(fits((), pair) for pair in value)

    def error(value):
        is_short = type(value) is tuple and len(value) <= 40
        return (BadTries, {"index": first_wrong(value, fits) if is_short else None})
    more = [
        ((1, 3),) * 41, (None,) * 41, ((1, 3),) * 39 + (None,), ((1, 3), (lands, 3)), ((1, 3), (-1, 3)),
        ((1, 3), (1, cells)), ((1, 3), (1, -1)), ((1, 3), (True, 3)), ((1, 3), (1, False)), ((1, 3), [1, 3]),
        ((1, 3), (1, 3, 0)), ((1, 3), (1,)), [(1, 3)], {1: 3}, ((1, 3), None, (1, 3)), ((1, 3), "13"), (1, 3),
        ((1, 3), {1: 3, 2: 4}), ((1, "3"),), ((1, None),), ((1, (3,)),), ((1, [3]),), ((1, 10 ** 30),),
    ]
    return Kind(good, error, is_right, more)


def cells(good=(0, 3)):
    """Fixed cells of MAP."""
    def is_right(value):
        return integers(0, 6)(value) and list(value) == sorted(set(value))
    more = [
        (0, 0), (1, 0), (0, 7), (-1, 0), (0, 1, 1), (0, 2, 1), [0, 3], {0: 0}, "03", (0, True), (False, 3), (0, "3"),
        (0, None), (0, (3,)), (0, [3]), (0, {}), (0, 10 ** 30), ((0, 3),), tuple(range(8)), (6, 5, 4, 3, 2, 1, 0),
    ]
    return Kind(good, BadCells, is_right, more)


def check_wrong(case, function, *kinds):
    """Each wrong value in each place raises the error of its place, and of several the leftmost one does."""
    good = [kind.good for kind in kinds]
    function(*good)
    for place, kind in enumerate(kinds):
        for value in kind.wrong:
            error = kind.raised(value)
            args = good[:place] + [value] + good[place + 1:]
            expect(case, function, args, *error)
            for later in range(place + 1, len(kinds)):
                expect(case, function, args[:later] + [kinds[later].wrong[-1]] + args[later + 1:], *error)
        for later in range(place + 1, len(kinds)):
            for value in kinds[later].wrong:
                args = list(good)
                args[place] = kind.wrong[0]
                args[later] = value
                expect(case, function, args, *kind.raised(kind.wrong[0]))


def expect(case, function, args, error, fields):
    before = deepcopy(args)
    try:
        got = function(*args)
    except error as raised:
        case.assertIs(type(raised), error, (function.__name__, args))
        case.assertEqual(vars(raised), fields, (function.__name__, args))
    else:
        case.fail(f"{function.__name__}{tuple(args)!r} gave {got!r} instead of {error.__name__}")
    case.assertEqual(repr(args), repr(before))


def check_shows(case, function, args, rights, nears):
    """A function that shows something: True for what is right, False for what is near, and for all kinds of things."""
    for value in rights:
        case.assertIs(function(*args, value), True, value)
    for value in list(nears) + EVERYTHING:
        if not any(repr(value) == repr(right) for right in rights):
            before = repr(value)
            case.assertIs(function(*args, value), False, (function.__name__, args, value))
            case.assertEqual(repr(value), before)
