import unittest

from tracebounds.errors import (
    InvalidCleanings,
    InvalidMachines,
    InvalidProducts,
    InvalidStuffs,
    InvalidText,
    UnknownName,
)
from tracebounds.works import Works

MACHINES = (("mixer", 100, 200), ("oven", 0, 1000))
CLEANINGS = (("rinse", 0, 100), ("scrub", 7, 7))
STUFFS = (("nuts", 30), ("milk", 10 ** 12))
PRODUCTS = (("bar", ((1000, 1000), (0, 0))), ("cake", ((0, 0), (0, 1))), ("roll", ((5, 10 ** 12), (2, 3))))
TEXT = (
    "machine mixer 100 200\nmachine oven 0 1000\ncleaning rinse 0 100\ncleaning scrub 7 7\n"
    "stuff nuts 30\nstuff milk 1000000000000\n"
    "product bar 1000-1000 0-0\nproduct cake 0-0 0-1\nproduct roll 5-1000000000000 2-3"
)
# The example of [7] and of the interface.
SMALL_TEXT = "machine mixer 100 200\ncleaning rinse 0 100\nstuff nuts 30\nproduct bar 1000-1000\nproduct cake 0-0"
SMALL = (
    (("mixer", 100, 200),),
    (("rinse", 0, 100),),
    (("nuts", 30),),
    (("bar", ((1000, 1000),)), ("cake", ((0, 0),))),
)
# For as many names as are needed.
LETTERS = "abcdefghijklmnopqrstuvwxyz"

NO_NAMES = (
    "", "mixermixe", "Mixer", "miXer", "mixer ", " mixer", "mix er", "mixer1", "1", "-", "mi-xer", "mixer\n",
    "\n", "a_b", "\u00e9", "stra\u00dfe", "\u0131", "mixer\x00", "`", "{", "A", "Z", "@", "[",
    None, 1, 0, True, b"mixer", ("mixer",), ["mixer"], {"mixer": 1}, {"mixer"}, object(), str,
)
NO_INTEGERS = (True, False, None, "1", "0", b"1", (1,), [1], {}, object(), int)
NO_TUPLES = (None, 0, 1, True, "", "mixer", b"", [], [("mixer", 100, 200)], {}, {"mixer": 1}, set(), object(), tuple)


class Always:
    """Equals everything."""

    def __eq__(self, other):
        return True


def big():
    """Works with as much as there can be of everything."""
    return Works(
        tuple((f"m{LETTERS[k]}", k, 1000 - k) for k in range(6)),
        tuple((f"c{LETTERS[k]}", k, 1000 - k) for k in range(6)),
        tuple((f"s{LETTERS[k]}", 10 ** 12 - k) for k in range(3)),
        tuple((f"p{LETTERS[k]}abcdef", ((k, 10 ** 12),) * 3) for k in range(8)),
    )


def replaced(rows, at, row):
    return rows[:at] + (row,) + rows[at + 1:]


class Made(unittest.TestCase):
    def setUp(self):
        self.works = Works(MACHINES, CLEANINGS, STUFFS, PRODUCTS)

    def test_properties_are_what_was_passed(self):
        self.assertIs(self.works.machines, MACHINES)
        self.assertIs(self.works.cleanings, CLEANINGS)
        self.assertIs(self.works.stuffs, STUFFS)
        self.assertIs(self.works.products, PRODUCTS)

    def test_properties_cannot_be_assigned(self):
        for name in ("machines", "cleanings", "stuffs", "products"):
            self.assertRaises(AttributeError, setattr, self.works, name, ())

    def test_hold_and_keep_for_all_names(self):
        self.assertEqual(self.works.hold("mixer"), (100, 200))
        self.assertEqual(self.works.hold("oven"), (0, 1000))
        self.assertEqual(self.works.keep("rinse"), (0, 100))
        self.assertEqual(self.works.keep("scrub"), (7, 7))

    def test_limit_for_all_names(self):
        self.assertEqual(self.works.limit("nuts"), 30)
        self.assertEqual(self.works.limit("milk"), 10 ** 12)

    def test_content_and_declares_for_all_names(self):
        for name, contents in PRODUCTS:
            for (stuff, _), pair in zip(STUFFS, contents):
                self.assertEqual(self.works.content(name, stuff), pair)
                self.assertIs(self.works.declares(name, stuff), pair[1] > 0)

    def test_by_name(self):
        works = Works(products=PRODUCTS, stuffs=STUFFS, cleanings=CLEANINGS, machines=MACHINES)
        self.assertEqual(works, self.works)
        self.assertEqual(works.hold(machine="oven"), (0, 1000))
        self.assertEqual(works.keep(cleaning="rinse"), (0, 100))
        self.assertEqual(works.content(stuff="milk", product="roll"), (2, 3))
        self.assertEqual(works.limit(stuff="nuts"), 30)
        self.assertIs(works.declares(stuff="milk", product="cake"), True)
        self.assertEqual(Works.read(text=TEXT), works)

    def test_str_and_repr(self):
        self.assertEqual(str(self.works), TEXT)
        self.assertEqual(repr(self.works), "Works of 2 machines and 3 products")
        one = Works((("mixer", 0, 0),), (), (("nuts", 0),), (("bar", ((0, 0),)),))
        self.assertEqual(str(one), "machine mixer 0 0\nstuff nuts 0\nproduct bar 0-0")
        self.assertEqual(repr(one), "Works of 1 machines and 1 products")

    def test_as_much_as_there_can_be(self):
        works = big()
        self.assertEqual(repr(works), "Works of 6 machines and 8 products")
        self.assertEqual(Works.read(str(works)), works)

    def test_more_than_the_most_of_the_others_is_no_matter(self):
        """Eight products and six machines are allowed, six machines do not count as cleanings."""
        names = tuple(LETTERS)
        works = Works(
            tuple((name, 0, 0) for name in names[:6]), (), ((names[6], 0),),
            tuple((name, ((0, 0),)) for name in names[7:15]),
        )
        self.assertEqual(len(works.products), 8)

    def test_names_are_of_one_to_eight_letters(self):
        for name in ("a", "z", "abcdefgh", "stuvwxyz", "machine", "product", "cleaning", "stuff", "run", "none"):
            works = Works(((name, 0, 0),), (), (("nuts", 0),), (("bar", ((0, 0),)),))
            self.assertEqual(works.hold(name), (0, 0))
            self.assertEqual(Works.read(str(works)), works)

    def test_is_true(self):
        self.assertTrue(self.works)

    def test_equal_by_the_text(self):
        self.assertTrue(self.works == self.works)
        other = Works(*[tuple(list(rows)) for rows in (MACHINES, CLEANINGS, STUFFS, PRODUCTS)])
        self.assertTrue(self.works == other)
        self.assertFalse(self.works != other)
        self.assertTrue(self.works == Works.read(TEXT))

    def test_unequal_by_the_text(self):
        for other in (
            Works(MACHINES[::-1], CLEANINGS, STUFFS, PRODUCTS),
            Works(MACHINES, CLEANINGS[::-1], STUFFS, PRODUCTS),
            Works(MACHINES, CLEANINGS, STUFFS[::-1], PRODUCTS),
            Works(MACHINES, CLEANINGS, STUFFS, PRODUCTS[::-1]),
            Works(MACHINES, (), STUFFS, PRODUCTS),
            Works(MACHINES, CLEANINGS, STUFFS, PRODUCTS[:2]),
            Works(replaced(MACHINES, 0, ("mixer", 100, 201)), CLEANINGS, STUFFS, PRODUCTS),
            Works.read(SMALL_TEXT),
        ):
            self.assertFalse(self.works == other)
            self.assertTrue(self.works != other)

    def test_unequal_to_values_of_other_classes(self):
        for other in (TEXT, None, 0, True, [], {}, (MACHINES, CLEANINGS, STUFFS, PRODUCTS), object(), Works, Always()):
            self.assertIs(self.works == other, False)
            self.assertIs(self.works != other, True)

    def test_no_call_changes_them(self):
        for call in (
            lambda: self.works.hold("mixer"), lambda: self.works.content("bar", "nuts"), lambda: str(self.works),
            lambda: self.works.declares("bar", "nuts"), lambda: self.works == self.works,
        ):
            self.assertEqual(call(), call())
        self.assertEqual(str(self.works), TEXT)


class UnknownNames(unittest.TestCase):
    def setUp(self):
        self.works = Works(MACHINES, CLEANINGS, STUFFS, PRODUCTS)
        self.kinds = {"machine": MACHINES, "cleaning": CLEANINGS, "stuff": STUFFS, "product": PRODUCTS}

    def wrong(self, kind):
        """Values that are no names of this kind."""
        others = [row[0] for other, rows in self.kinds.items() if other != kind for row in rows]
        return list(NO_NAMES) + others + ["nothing", "mixe", "mixerr", ("mixer", 100, 200), Always()]

    def refused(self, given, call, *passed, **named):
        with self.assertRaises(UnknownName) as caught:
            call(*passed, **named)
        self.assertIs(caught.exception.given, given)

    def test_of_one_kind(self):
        for kind, call in (
            ("machine", self.works.hold), ("cleaning", self.works.keep), ("stuff", self.works.limit),
        ):
            for given in self.wrong(kind):
                self.refused(given, call, given)
                self.refused(given, call, **{kind: given})

    def test_of_content_and_declares(self):
        for call in (self.works.content, self.works.declares):
            for given in self.wrong("product"):
                self.refused(given, call, given, "nuts")
            for given in self.wrong("stuff"):
                self.refused(given, call, "bar", given)

    def test_the_first_wrong_one(self):
        for call in (self.works.content, self.works.declares):
            self.refused("nuts", call, "nuts", "bar")
            self.refused("x", call, stuff="y", product="x")
            wrong = []
            self.refused(wrong, call, wrong, {})


class Refused(unittest.TestCase):
    def refused(self, error, index, machines=MACHINES, cleanings=CLEANINGS, stuffs=STUFFS, products=PRODUCTS):
        with self.assertRaises(error) as caught:
            Works(machines, cleanings, stuffs, products)
        self.assertIs(type(caught.exception), error)
        if index is None:
            self.assertIsNone(caught.exception.index)
        else:
            self.assertIs(type(caught.exception.index), int)
            self.assertEqual(caught.exception.index, index)

    def test_no_tuples(self):
        for value in NO_TUPLES:
            self.refused(InvalidMachines, None, machines=value)
            self.refused(InvalidCleanings, None, cleanings=value)
            self.refused(InvalidStuffs, None, stuffs=value)
            self.refused(InvalidProducts, None, products=value)
        self.refused(InvalidMachines, None, machines=list(MACHINES))
        self.refused(InvalidCleanings, None, cleanings=list(CLEANINGS))
        self.refused(InvalidStuffs, None, stuffs=list(STUFFS))
        self.refused(InvalidProducts, None, products=list(PRODUCTS))

    def test_none_where_one_is_needed(self):
        self.refused(InvalidMachines, None, machines=())
        self.refused(InvalidStuffs, None, stuffs=())
        self.refused(InvalidStuffs, None, stuffs=(), products=())
        self.refused(InvalidProducts, None, products=())
        Works(MACHINES, (), STUFFS, PRODUCTS)

    def test_elements_of_the_wrong_kind_or_length(self):
        for at in (0, 1):
            for value in NO_TUPLES + ((), ("mixer",)):
                self.refused(InvalidMachines, at, machines=replaced(MACHINES, at, value))
                self.refused(InvalidCleanings, at, cleanings=replaced(CLEANINGS, at, value))
                self.refused(InvalidStuffs, at, stuffs=replaced(STUFFS, at, value))
                self.refused(InvalidProducts, at, products=replaced(PRODUCTS, at, value))
            self.refused(InvalidMachines, at, machines=replaced(MACHINES, at, ["pot", 1, 2]))
            self.refused(InvalidMachines, at, machines=replaced(MACHINES, at, ("pot", 1)))
            self.refused(InvalidMachines, at, machines=replaced(MACHINES, at, ("pot", 1, 2, 3)))
            self.refused(InvalidMachines, at, machines=replaced(MACHINES, at, ("pot", (1, 2))))
            self.refused(InvalidCleanings, at, cleanings=replaced(CLEANINGS, at, ["pot", 1, 2]))
            self.refused(InvalidCleanings, at, cleanings=replaced(CLEANINGS, at, ("pot", 1)))
            self.refused(InvalidCleanings, at, cleanings=replaced(CLEANINGS, at, ("pot", 1, 2, 3)))
            self.refused(InvalidStuffs, at, stuffs=replaced(STUFFS, at, ["pot", 1]))
            self.refused(InvalidStuffs, at, stuffs=replaced(STUFFS, at, ("pot", 1, 2)))
            self.refused(InvalidProducts, at, products=replaced(PRODUCTS, at, ["pot", ((0, 0), (0, 0))]))
            self.refused(InvalidProducts, at, products=replaced(PRODUCTS, at, ("pot", (0, 0), (0, 0))))
            self.refused(InvalidProducts, at, products=replaced(PRODUCTS, at, ("pot", ((0, 0), (0, 0)), 1)))

    def test_no_names(self):
        for name in NO_NAMES:
            for at in (0, 1):
                self.refused(InvalidMachines, at, machines=replaced(MACHINES, at, (name, 1, 2)))
                self.refused(InvalidCleanings, at, cleanings=replaced(CLEANINGS, at, (name, 1, 2)))
                self.refused(InvalidStuffs, at, stuffs=replaced(STUFFS, at, (name, 1)))
                self.refused(InvalidProducts, at, products=replaced(PRODUCTS, at, (name, ((0, 0), (0, 0)))))

    def test_names_that_stand_before(self):
        both = ((0, 0), (0, 0))
        self.refused(InvalidMachines, 1, machines=(("mixer", 1, 2), ("mixer", 1, 2)))
        self.refused(InvalidMachines, 2, machines=MACHINES + (("mixer", 1, 2),))
        for name in ("mixer", "oven", "rinse"):
            self.refused(InvalidCleanings, 1, cleanings=(("rinse", 1, 2), (name, 3, 4)))
        for name in ("mixer", "oven", "rinse", "scrub", "nuts"):
            self.refused(InvalidStuffs, 1, stuffs=(("nuts", 1), (name, 3)))
        for name in ("mixer", "oven", "rinse", "scrub", "nuts", "milk", "bar"):
            self.refused(InvalidProducts, 1, products=(("bar", both), (name, both)))
        for name in ("mixer", "scrub", "milk"):
            self.refused(InvalidProducts, 0, products=((name, both),))

    def test_shares(self):
        wrong = [(-1, 0), (0, 1001), (1001, 1001), (2, 1), (1000, 0), (-2, -1), (0, 10 ** 400), (-10 ** 400, 0)]
        wrong += [(value, 5) for value in NO_INTEGERS] + [(0, value) for value in NO_INTEGERS]
        for low, high in wrong:
            for at in (0, 1):
                self.refused(InvalidMachines, at, machines=replaced(MACHINES, at, ("pot", low, high)))
                self.refused(InvalidCleanings, at, cleanings=replaced(CLEANINGS, at, ("pot", low, high)))
        for low, high in ((0, 0), (1000, 1000), (0, 1000), (1, 1), (999, 1000)):
            works = Works((("pot", low, high),), (("wipe", low, high),), STUFFS, PRODUCTS)
            self.assertEqual([works.hold("pot"), works.keep("wipe")], [(low, high), (low, high)])

    def test_limits(self):
        for limit in (-1, 10 ** 12 + 1, 10 ** 400, -10 ** 400) + NO_INTEGERS:
            for at in (0, 1):
                self.refused(InvalidStuffs, at, stuffs=replaced(STUFFS, at, ("salt", limit)))
        for limit in (0, 1, 10 ** 12):
            self.assertEqual(Works(MACHINES, CLEANINGS, (("salt", limit),) + STUFFS[1:], PRODUCTS).limit("salt"), limit)

    def test_contents(self):
        good = (3, 4)
        wrong = [(-1, 0), (0, 10 ** 12 + 1), (2, 1), (10 ** 12, 0), (), (1,), (1, 2, 3), [1, 2], 5, None, "12", {}]
        wrong += [(value, 5) for value in NO_INTEGERS] + [(0, value) for value in NO_INTEGERS]
        for pair in wrong:
            for contents in ((pair, good), (good, pair)):
                self.refused(InvalidProducts, 0, products=(("pot", contents),))
                self.refused(InvalidProducts, 1, products=replaced(PRODUCTS, 1, ("pot", contents)))
        for contents in ((), (good,), (good, good, good), [good, good], good, None, "", 0, {}):
            self.refused(InvalidProducts, 2, products=replaced(PRODUCTS, 2, ("pot", contents)))
        for pair in ((0, 0), (0, 10 ** 12), (10 ** 12, 10 ** 12), (7, 8)):
            works = Works(MACHINES, CLEANINGS, STUFFS, (("pot", (good, pair)),))
            self.assertEqual(works.content("pot", "milk"), pair)

    def test_one_too_many(self):
        names = [f"x{letter}" for letter in LETTERS]
        both = ((0, 0), (0, 0))
        for more in (0, 1, 5):
            self.refused(InvalidMachines, 6, machines=tuple((name, 0, 0) for name in names[:7 + more]))
            self.refused(InvalidCleanings, 6, cleanings=tuple((name, 0, 0) for name in names[:7 + more]))
            self.refused(InvalidStuffs, 3, stuffs=tuple((name, 0) for name in names[:4 + more]))
            self.refused(InvalidProducts, 8, products=tuple((name, both) for name in names[:9 + more]))
        self.refused(InvalidMachines, 6, machines=tuple((name, 0, 0) for name in names[:6]) + (None, None))
        self.refused(InvalidMachines, 5, machines=tuple((name, 0, 0) for name in names[:5]) + (None, None))

    def test_the_first_index(self):
        self.refused(InvalidMachines, 1, machines=(("a", 0, 0), ("a", 0, 0), None, ("b", 2, 1)))
        self.refused(InvalidMachines, 1, machines=(("a", 0, 0), None, ("a", 0, 0)))
        self.refused(InvalidProducts, 0, products=(("bar", ()), None))

    def test_the_first_tuple(self):
        wrong = (None,)
        self.refused(InvalidMachines, 0, machines=wrong, cleanings=wrong, stuffs=wrong, products=wrong)
        self.refused(InvalidMachines, None, machines=None, cleanings=None, stuffs=None, products=None)
        self.refused(InvalidCleanings, 0, cleanings=wrong, stuffs=wrong, products=wrong)
        self.refused(InvalidCleanings, None, cleanings=None, stuffs=wrong, products=wrong)
        self.refused(InvalidStuffs, 0, stuffs=wrong, products=wrong)
        self.refused(InvalidStuffs, None, stuffs=None, products=wrong)
        self.refused(InvalidCleanings, 0, cleanings=(("mixer", 0, 0),), products=(("mixer", ((0, 0),) * 2),))

    def test_lists_are_not_changed(self):
        rows = [("mixer", 100, 200)]
        self.refused(InvalidMachines, None, machines=rows)
        self.assertEqual(rows, [("mixer", 100, 200)])


class Read(unittest.TestCase):
    def refused(self, text):
        with self.assertRaises(InvalidText) as caught:
            Works.read(text)
        self.assertIs(type(caught.exception), InvalidText)
        self.assertIs(caught.exception.given, text)

    def test_the_example(self):
        small = Works.read(SMALL_TEXT)
        self.assertEqual(
            [small.machines, small.content("bar", "nuts"), small.limit("nuts"), small.declares("cake", "nuts"),
             repr(small), small.keep("rinse")],
            [(("mixer", 100, 200),), (1000, 1000), 30, False, "Works of 1 machines and 2 products", (0, 100)],
        )
        self.assertEqual((small.machines, small.cleanings, small.stuffs, small.products), SMALL)

    def test_what_was_read_has_this_text(self):
        for text in (TEXT, SMALL_TEXT, str(big()), "machine a 0 0\nstuff b 0\nproduct c 0-0"):
            self.assertEqual(str(Works.read(text)), text)

    def test_the_rows_that_were_read(self):
        works = Works.read(TEXT)
        self.assertEqual(works.machines, MACHINES)
        self.assertEqual(works.cleanings, CLEANINGS)
        self.assertEqual(works.stuffs, STUFFS)
        self.assertEqual(works.products, PRODUCTS)

    def test_no_strings(self):
        for text in (None, 0, True, b"", SMALL_TEXT.encode(), [], [SMALL_TEXT], (SMALL_TEXT,), {}, object(), str,
                     Works.read(SMALL_TEXT), SMALL_TEXT.split("\n")):
            self.refused(text)

    def test_lines(self):
        self.refused("")
        self.refused("\n")
        self.refused(" ")
        self.refused(SMALL_TEXT + "\n")
        self.refused("\n" + SMALL_TEXT)
        self.refused(SMALL_TEXT.replace("\n", "\n\n", 1))
        self.refused(SMALL_TEXT.replace("\nproduct cake", "\n\nproduct cake"))
        for other in ("\r\n", "\r", " ", "\x0b", "\x0c", "\x1e", "\x85", "\u2028", " / ", ""):
            self.refused(SMALL_TEXT.replace("\n", other))

    def test_spaces(self):
        for at in range(len(SMALL_TEXT) + 1):
            for more in (" ", "\n", "\t", "-", "+", "\x00"):
                text = SMALL_TEXT[:at] + more + SMALL_TEXT[at:]
                self.refused(text)
        for at, sign in enumerate(SMALL_TEXT):
            if sign in " \n":
                self.refused(SMALL_TEXT[:at] + SMALL_TEXT[at + 1:])
                for other in "\t\r\x0b\x0c\x1f\xa0\u2003":
                    self.refused(SMALL_TEXT[:at] + other + SMALL_TEXT[at + 1:])

    def changed(self, line, other):
        """The text of the example with another line."""
        self.assertIn(line, SMALL_TEXT.split("\n"))
        return "\n".join(other if here == line else here for here in SMALL_TEXT.split("\n"))

    def refused_numbers(self, line, begin, end):
        """This line with anything that is no number behind its begin."""
        for number in ("00", "01", "001", "+1", "-1", "-0", "+0", "", "a", "1a", "0x1", "1_0", "1.0", "1e2", "1,0",
                       "\u0661", "\u00b2", "\uff11", "1 1", "True", "None", "1\x00"):
            self.refused(self.changed(line, begin + number + end))

    def test_numbers(self):
        self.refused_numbers("machine mixer 100 200", "machine mixer ", " 200")
        self.refused_numbers("machine mixer 100 200", "machine mixer 0 ", "")
        self.refused_numbers("cleaning rinse 0 100", "cleaning rinse ", " 100")
        self.refused_numbers("cleaning rinse 0 100", "cleaning rinse 0 ", "")
        self.refused_numbers("stuff nuts 30", "stuff nuts ", "")
        self.refused_numbers("product bar 1000-1000", "product bar ", "-1000")
        self.refused_numbers("product bar 1000-1000", "product bar 0-", "")

    def test_bounds(self):
        for low, high in (("201", "200"), ("0", "1001"), ("1001", "1001"), ("1", "0"), ("0", "9" * 5000), ("0", "9" * 20)):
            self.refused(self.changed("machine mixer 100 200", f"machine mixer {low} {high}"))
            self.refused(self.changed("cleaning rinse 0 100", f"cleaning rinse {low} {high}"))
        for limit in ("1000000000001", "9" * 20, "9" * 400, "9" * 5000):
            self.refused(self.changed("stuff nuts 30", f"stuff nuts {limit}"))
            self.refused(self.changed("product bar 1000-1000", f"product bar 0-{limit}"))
            self.refused(self.changed("product bar 1000-1000", f"product bar {limit}-{limit}"))
        self.refused(self.changed("product bar 1000-1000", "product bar 1-0"))

    def test_contents_of_another_number(self):
        for contents in ("", " 0", " 0 0", " 0-0 0-0", " 0-0-0", " -", " 0-", " -0", " 0--0", " --", " 0 - 0", " 0-0 ",
                         " 0-0 0", " 1000-1000 1000-1000"):
            self.refused(self.changed("product bar 1000-1000", "product bar" + contents))
        self.refused(TEXT.replace("product cake 0-0 0-1", "product cake 0-0"))
        self.refused(TEXT.replace("product cake 0-0 0-1", "product cake 0-0 0-1 0-1"))

    def test_rows_of_another_length(self):
        for line, others in (
            ("machine mixer 100 200", ("machine", "machine ", "machine mixer", "machine mixer 100",
                                       "machine mixer 100 200 300", "machine 100 200", "machine mixer 100-200")),
            ("cleaning rinse 0 100", ("cleaning", "cleaning rinse", "cleaning rinse 0", "cleaning rinse 0 100 100")),
            ("stuff nuts 30", ("stuff", "stuff nuts", "stuff nuts 30 30", "stuff 30", "stuff nuts 30-30")),
            ("product bar 1000-1000", ("product", "product ", "product bar", "product 1000-1000")),
        ):
            for other in others:
                self.refused(self.changed(line, other))

    def test_words_and_names(self):
        for line in SMALL_TEXT.split("\n"):
            word, name, rest = line.split(" ", 2)
            for other in ("", "Machine", "machines", "rule", "run", "clean", "x", "#", word + word, word[:-1]):
                self.refused(self.changed(line, f"{other} {name} {rest}"))
            for other in ("", "Mixer", "mixermixe", "mix1", "-", "\u00e9"):
                self.refused(self.changed(line, f"{word} {other} {rest}"))

    def test_lines_in_another_order(self):
        lines = TEXT.split("\n")
        kinds = [line.split(" ")[0] for line in lines]
        for first in range(len(lines)):
            for second in range(first):
                swapped = list(lines)
                swapped[first], swapped[second] = swapped[second], swapped[first]
                text = "\n".join(swapped)
                if kinds[first] == kinds[second]:
                    # Within a kind any order is the text of some works.
                    self.assertEqual(str(Works.read(text)), text)
                else:
                    self.refused(text)

    def test_names_twice(self):
        for line in SMALL_TEXT.split("\n"):
            self.refused(SMALL_TEXT.replace(line, line + "\n" + line))
            for name in ("mixer", "rinse", "nuts", "bar", "cake"):
                word, own, rest = line.split(" ", 2)
                if own != name:
                    self.refused(self.changed(line, f"{word} {name} {rest}"))

    def test_one_too_many(self):
        lines = str(big()).split("\n")
        for word, end in (("machine", " 0 0"), ("cleaning", " 0 0"), ("stuff", " 0"), ("product", " 0-0 0-0 0-0")):
            last = max(at for at, line in enumerate(lines) if line.startswith(word + " "))
            self.refused("\n".join(lines[:last + 1] + [word + " more" + end] + lines[last + 1:]))
        for many in (3, 4):
            text = "\n".join(
                ["machine mixer 0 0"] + [f"stuff s{LETTERS[k]} 1" for k in range(many)] + ["product bar" + " 0-0" * many])
            if many == 3:
                self.assertEqual(str(Works.read(text)), text)
            else:
                self.refused(text)

    def test_none_of_a_kind(self):
        for word in ("machine", "stuff", "product"):
            self.refused("\n".join(line for line in SMALL_TEXT.split("\n") if not line.startswith(word + " ")))
        self.refused("machine mixer 1 2\nproduct bar")
        text = "\n".join(line for line in SMALL_TEXT.split("\n") if not line.startswith("cleaning "))
        self.assertEqual(Works.read(text).cleanings, ())


if __name__ == "__main__":
    unittest.main()
