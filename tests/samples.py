"""Works, plans and wrong values that several tests take."""

import math
from fractions import Fraction

from tracebounds.plans import Plan
from tracebounds.rules import Rule
from tracebounds.works import Works

SMALL = Works.read(
    "machine mixer 100 200\ncleaning rinse 0 100\nstuff nuts 30\nproduct bar 1000-1000\nproduct cake 0-0")
DIRTY = Plan(SMALL, (("run", "bar", ("mixer",)), ("run", "cake", ("mixer",))))
CLEAN = Plan.read(SMALL, "run bar mixer\nclean mixer rinse\nrun cake mixer")
RULE = Rule.read(SMALL, "rule mixer\nbar bar -\nbar cake rinse\ncake cake -\ncake bar -")

# Two of most things, and six machines.
BIG_TEXT = (
    "machine mixer 100 200\nmachine oven 0 1000\nmachine belt 7 7\nmachine pan 0 0\nmachine tub 1000 1000\n"
    "machine box 1 999\ncleaning rinse 0 100\ncleaning scrub 5 6\nstuff nuts 30\nstuff milk 0\n"
    "product bar 1000-1000 0-0\nproduct cake 0-0 0-1\nproduct roll 5-10 2-3"
)
BIG = Works.read(BIG_TEXT)


class Always:
    """Equals everything."""

    def __eq__(self, other):
        return True


def nested(value, depth):
    """A tuple that is so many deep."""
    for _ in range(depth):
        value = (value,)
    return value


# Values of any kind: none of them is a name of these works, a number of a lot, works, a plan or a rule.
ANYTHING = (
    None, True, False, -1, 10 ** 400, -10 ** 400, "", "nothing", "0", "1", "mixe", "Mixer", "mixer ", "mixer\n", "-1",
    b"", b"mixer", b"run", (), ("mixer",), (0,), ("run", "bar", ("mixer",)), [], ["mixer"], [0], [[[]]], {},
    {"mixer": 1}, set(), {0}, frozenset(), object(), str, int, len, range(2), ValueError("mixer"), Always(), Always,
    nested("mixer", 20), nested([], 19), lambda: 0,
)
# The same, with values of the classes of the package.
OTHERS = ANYTHING + (Works, Plan, Rule)


def check(case, error, attribute, worth, call, *passed, **named):
    """The call raises just this error, with this very value."""
    with case.assertRaises(error) as caught:
        call(*passed, **named)
    case.assertIs(error, caught.exception.__class__)
    found = getattr(caught.exception, attribute)
    if attribute == "index" and worth is not None:
        case.assertIs(int, found.__class__)
        case.assertEqual(found, worth)
    else:
        case.assertIs(found, worth)


def worth(case, pair):
    """What this fraction stands for, if it is one."""
    case.assertIs(type(pair), tuple)
    top, bottom = pair
    case.assertEqual([type(top), type(bottom)], [int, int])
    case.assertGreater(bottom, 0)
    case.assertEqual(math.gcd(top, bottom), 1)
    return Fraction(top, bottom)


def damaged(text):
    """This text with one sign too many, or with something else in the place of a space or a newline."""
    for at in range(len(text) + 1):
        for more in (" ", "\n", "\t", "-", "\x00", "A"):
            yield text[:at] + more + text[at:]
    instead = {
        " ": ("", "  ", "\n", "\t", "\xa0", "\u2003", "\r"),
        "\n": ("", "\n\n", "\r\n", "\r", " ", " / ", "\x0b", "\x0c", "\x1e", "\x85", "\u2028"),
    }
    for at, sign in enumerate(text):
        for other in instead.get(sign, ()):
            yield text[:at] + other + text[at + 1:]
