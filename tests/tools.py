"""What the tests share: wrong values, and checks that hold for every function."""

import copy
import itertools
import random
import unittest

from noisebound import errors
from noisebound.algebra import Element
from noisebound.parameters import ParameterSet
from noisebound.rings import Ring

ATTRIBUTES = {
    "OutOfRange": ("name",),
    "BadItem": ("index",),
    "BadLength": ("expected", "found"),
    "BadText": ("index",),
    "BadPadding": (),
    "WrongPhase": (),
    "NotInvertible": ("value",),
    "BadRing": ("demand",),
    "BadParameters": ("demand",),
    "UnknownName": ("name",),
    "DifferentRings": (),
    "BadKey": ("fault", "place"),
    "BadLetter": ("fault", "place"),
    "BadKeyText": ("line", "fault"),
    "BadRecord": ("fault",),
    "BadCommand": ("fault", "place", "line"),
    "NoEntry": ("name",),
    "NothingLeft": ("deed",),
}

# Integers of 900 digits are the greatest for which anything is promised.
HUGE = 10 ** 900 - 1

OTHER_KINDS = (True, False, None, "1", "", [1], [], (1,), (), {}, {1: 1}, 8.0, 0.0, 1.5, b"\x01")


def wrong_integers(low, high):
    """Values that are not integers from low to high."""
    return [*OTHER_KINDS, low - 1, high + 1, low - 1000, high + 1000, HUGE, -HUGE]


def out_of_range(name, low, high):
    """Pairs (wrong value, refusal) for an integer from low to high."""
    return [(value, ("OutOfRange", name)) for value in wrong_integers(low, high)]


def no_integer(name):
    """Pairs (wrong value, refusal) for an integer of any sign."""
    return [(value, ("OutOfRange", name)) for value in OTHER_KINDS]


def no_choice(name, choices):
    """Pairs (wrong value, refusal) for one of some integers."""
    near = [value + step for value in choices for step in (-1, 1)]
    others = [value for value in (*near, 0, -8, HUGE, -HUGE) if value not in choices]
    floats = [float(value) for value in choices]
    return [(value, ("OutOfRange", name)) for value in (*OTHER_KINDS, *others, *floats, [choices[0]])]


def bad_items(low, high, good=None):
    """Pairs (wrong list, refusal) for a list of integers from low to high.

    With good, a list of the right length, the lists have this length too.
    """
    pairs = []
    for value in wrong_integers(low, high):
        if good is None:
            pairs.append(([value], ("BadItem", 0)))
            pairs.append(([low, high, value, low, None], ("BadItem", 2)))
        else:
            for place in (0, 1, len(good) - 1):
                changed = list(good)
                changed[place] = value
                pairs.append((changed, ("BadItem", place)))
    return pairs


def bad_list(low, high, good):
    """Pairs (wrong list, refusal) for a list of exactly as many integers as good has."""
    count = len(good)
    wrong = [[], good[:-1], [*good, low], good * 2, [None] * (count + 1), [high + 1] * (count - 1)]
    lengths = [(data, ("BadLength", count, len(data))) for data in wrong]
    return lengths + bad_items(low, high, good)


def bad_vector(name, good, members):
    """Pairs (wrong vector, refusal) for 1 to 4 members; members has such pairs for one member."""
    wrong, expected = members[0]
    lengths = [[], [good[0]] * 5, [wrong] * 5, [good[0]] * 100]
    pairs = [(data, ("OutOfRange", name)) for data in lengths]
    for value, told in members:
        for place in range(len(good)):
            pairs.append(([*good[:place], value, *good[place + 1:]], told))
    pairs.append(([wrong, members[-1][0]], expected))
    return pairs


def bad_rows(good, row_pairs):
    """Pairs (wrong vector, refusal) for a number of rows that is told; row_pairs has such pairs for one row."""
    count = len(good)
    wrong, expected = row_pairs[0]
    lengths = [[], good[:-1], [*good, good[0]], [wrong] * (count + 1), [good[0]] * 50]
    pairs = [(rows, ("BadLength", count, len(rows))) for rows in lengths]
    for row, told in row_pairs:
        for place in range(count):
            pairs.append(([*good[:place], row, *good[place + 1:]], told))
    if count > 1:
        pairs.append(([wrong, row_pairs[-1][0], *good[2:]], expected))
    return pairs


BAD_BYTES = bad_items(0, 255)

# Values that are no right answer of any judge: those of [6], and a few that the program would not make.
ANY_PAPERS = (
    None, True, False, 0, 1, -1, HUGE, -HUGE, "", "paper", [], (), [[]], ((),), [()], ([],), [None], (None,), (True,),
    ([], [], 0), ([], []), [[], [], 0], ([], [], 0, 0), (0, 0, 0, 0, 0), [0, 0, 0, 0, 0], ((((((((1,),),),),),),),),
    [[[[[[[["deep"]]]]]]]], ("", "", ""), (None, None, None), (1, 2, 3), ["x"] * 1000, (HUGE,) * 5, (-HUGE,) * 5,
)


def bent_papers(paper):
    """Copies of a paper, each changed in one place: another value, another kind, an item more or less."""
    if isinstance(paper, (list, tuple)):
        kind = paper.__class__
        yield (tuple if kind is list else list)(paper)
        yield kind([*paper, 0])
        if paper:
            yield kind(paper[:-1])
            yield kind(paper[1:])
        places = range(len(paper)) if len(paper) < 12 else (0, 1, len(paper) // 2, len(paper) - 1)
        for place in places:
            for item in bent_papers(paper[place]):
                yield kind([*paper[:place], item, *paper[place + 1:]])
        return
    others = [None, "", str(paper), f"{paper}x", [paper], (paper,), HUGE, True, False, 0, 1]
    if isinstance(paper, int):
        others += [paper + 1, paper - 1]
    # repr tells True from 1, which == does not.
    yield from [other for other in others if repr(other) != repr(paper)]


def product_by_sum(n, q, first, second):
    """The product of two polynomials, written as the document tells it."""
    items = []
    for t in range(n):
        total = sum(first[i] * second[t - i] for i in range(t + 1))
        total -= sum(first[i] * second[t + n - i] for i in range(t + 1, n))
        items.append(total % q)
    return items


def special_polynomials(n, q):
    """Polynomials at the ends of what is allowed, and one without a pattern."""
    chance = random.Random(n * q)
    half = (q - 1) // 2
    return [
        [0] * n,
        [1] + [0] * (n - 1),
        [0] * (n - 1) + [q - 1],
        [q - 1] * n,
        [half, half + 1] * (n // 2),
        [0, q - 1] * (n // 2),
        [chance.randrange(q) for _ in range(n)],
    ]


# For each degree the least prime that has roots, with its least and its greatest root, and the greatest such prime.
RINGS = (
    (8, 17, 2), (8, 17, 9), (8, 17, 15), (8, 4073, 514), (16, 17, 3), (16, 17, 14), (16, 4049, 276), (32, 97, 19),
    (32, 97, 78), (32, 4001, 186), (64, 193, 11), (64, 193, 182), (64, 3457, 297), (128, 257, 9), (128, 257, 248),
    (128, 3457, 63), (256, 257, 3), (256, 257, 254), (256, 3329, 17), (256, 3329, 3312),
)
SMALL_RINGS = tuple(triple for triple in RINGS if triple[0] <= 64)


def centred_form(value, q):
    """The centred form, written apart from the program."""
    rest = value % q
    return rest if 2 * rest <= q else rest - q


def shown(value):
    """A text that tells the kinds of plain values, and of the program's objects what they hold."""
    if isinstance(value, dict):
        return repr({key: shown(item) for key, item in value.items()})
    if isinstance(value, Ring):
        return f"Ring{(value.n, value.q, value.root, value.half, value.quarter, value.triple)}"
    if isinstance(value, Element):
        return f"Element of {shown(value.ring)}: {value.coefficients()}"
    if isinstance(value, ParameterSet):
        return f"ParameterSet{value.numbers}"
    return repr(value)


def refusal(function, *args, **keywords):
    """Call and return the class and attributes of the error, or ("answer", ..)."""
    try:
        answer = function(*args, **keywords)
    except errors.NoiseboundError as error:
        name = error.__class__.__name__
        assert error.__class__ is getattr(errors, name), name
        return (name, *[getattr(error, word) for word in ATTRIBUTES[name]])
    return ("answer", answer)


def spoil(value):
    """Change all lists in an answer."""
    if isinstance(value, (list, tuple)):
        for item in value:
            spoil(item)
    if isinstance(value, list):
        value.append("spoiled")
        value[0] = "spoiled"


class ProgramTest(unittest.TestCase):
    """A test with checks that hold for every function."""

    def same(self, found, expected):
        """Equal, with the same kinds: True is not 1 and a list is not a tuple."""
        self.assertEqual(shown(found), shown(expected))

    def check_refusals(self, function, good, bad):
        """Try wrong arguments alone and together.

        good has the right arguments by name, in the order of the signature;
        bad has lists of pairs (wrong value, refusal) for some of these names.
        """
        self.same(refusal(function, **good)[0], "answer")
        for name, pairs in bad.items():
            for value, expected in pairs:
                self.check_refusal(function, {**good, name: value}, expected)
        self.check_order(function, good, bad)

    def check_order(self, function, good, bad):
        """Of several wrong arguments the earliest one is named."""
        names = [name for name in good if name in bad]
        for earlier, later in itertools.combinations(names, 2):
            for value, expected in bad[earlier]:
                for other, _ in (bad[later][0], bad[later][-1]):
                    wrong = {**good, earlier: value, later: other}
                    self.check_refusal(function, wrong, expected)
            for other, _ in bad[later]:
                value, expected = bad[earlier][-1]
                self.check_refusal(function, {**good, earlier: value, later: other}, expected)
        for start in range(len(names)):
            wrong = {**good, **{name: bad[name][-1][0] for name in names[start:]}}
            self.check_refusal(function, wrong, bad[names[start]][-1][1])

    def check_refusal(self, function, arguments, expected):
        """One call is refused and leaves its arguments as they were."""
        before = shown(arguments)
        backward = dict(reversed(list(arguments.items())))
        self.same(refusal(function, **arguments), expected)
        self.same(refusal(function, **backward), expected)
        self.assertEqual(shown(arguments), before)

    def check_calls(self, function, good, expected, keyword_only=0):
        """All ways of passing the same arguments give the same new answer."""
        before = shown(good)
        names = list(good)
        placed = len(names) - keyword_only
        for count in range(placed + 1):
            args = [good[name] for name in names[:count]]
            keywords = {name: good[name] for name in reversed(names[count:])}
            self.same(function(*args, **keywords), expected)
        if keyword_only:
            with self.assertRaises(TypeError):
                function(*good.values())
        self.check_new(function, good, expected)
        self.assertEqual(shown(good), before)

    def check_new(self, function, good, expected):
        """Changing an answer or an argument later has no effect."""
        passed = copy.deepcopy(good)
        answer = function(**passed)
        spoil(answer)
        self.same(passed, good)
        answer = function(**passed)
        self.same(answer, expected)
        spoil(list(passed.values()))
        self.same(answer, expected)
        self.same(function(**copy.deepcopy(good)), expected)

