import unittest

from samples import ANYTHING, BIG, BIG_TEXT, CLEAN, DIRTY, OTHERS, RULE, SMALL, Always, check, damaged, nested

from tracebounds.errors import InvalidDeeds, InvalidIndex, InvalidText, NotWorks
from tracebounds.plans import Plan
from tracebounds.works import Works

RUN = ("run", "bar", ("mixer",))
WIPE = ("clean", "mixer", "rinse")
DEEDS = (
    ("clean", "oven", "scrub"),
    ("run", "bar", ("mixer", "oven")),
    ("clean", "mixer", "rinse"),
    ("run", "cake", ("oven",)),
    ("run", "bar", ("box", "tub", "pan", "belt")),
    ("clean", "belt", "scrub"),
)
TEXT = (
    "clean oven scrub\nrun bar mixer oven\nclean mixer rinse\nrun cake oven\nrun bar box tub pan belt\n"
    "clean belt scrub"
)
# The most deeds that there can be.
MOST = (RUN,) * 8 + (WIPE,) * 12


def text_of(deeds):
    return "\n".join(
        " ".join((word, first) + (second if word == "run" else (second,))) for word, first, second in deeds)


class Made(unittest.TestCase):
    def setUp(self):
        self.plan = Plan(BIG, DEEDS)

    def test_works_and_deeds_as_they_were_passed(self):
        self.assertIs(self.plan.works, BIG)
        self.assertIs(self.plan.deeds, DEEDS)
        nothing = ()
        self.assertIs(Plan(SMALL, nothing).deeds, nothing)

    def test_properties_cannot_be_assigned(self):
        for name in ("works", "deeds", "lots"):
            self.assertRaises(AttributeError, setattr, self.plan, name, ())

    def test_lots(self):
        self.assertEqual(self.plan.lots, ("bar", "cake", "bar"))
        self.assertEqual(Plan(SMALL, ()).lots, ())
        self.assertEqual(Plan(SMALL, (WIPE, WIPE)).lots, ())
        self.assertEqual(DIRTY.lots, ("bar", "cake"))
        self.assertEqual(Plan(SMALL, MOST).lots, ("bar",) * 8)

    def test_len(self):
        self.assertEqual(len(self.plan), 3)
        self.assertEqual(len(Plan(SMALL, ())), 0)
        self.assertEqual(len(Plan(SMALL, (WIPE, WIPE))), 0)
        self.assertEqual(len(Plan(SMALL, MOST)), 8)

    def test_is_always_true(self):
        for deeds in ((), (WIPE,), (RUN,), MOST):
            self.assertIs(bool(Plan(SMALL, deeds)), True)

    def test_str(self):
        self.assertEqual(str(self.plan), TEXT)
        self.assertEqual(str(Plan(SMALL, ())), "")
        self.assertEqual(str(Plan(SMALL, (RUN,))), "run bar mixer")
        self.assertEqual(str(Plan(SMALL, (WIPE,))), "clean mixer rinse")

    def test_by_name(self):
        plan = Plan(deeds=DEEDS, works=BIG)
        self.assertEqual(plan, self.plan)
        self.assertEqual(Plan.read(text=TEXT, works=BIG), self.plan)
        self.assertEqual(plan.without(index=1), self.plan.without(1))

    def test_machines_keep_their_order(self):
        one, other = (Plan(BIG, (("run", "bar", two),)) for two in (("mixer", "oven"), ("oven", "mixer")))
        self.assertEqual(one.deeds[0][2], ("mixer", "oven"))
        self.assertNotEqual(one, other)
        self.assertEqual(str(other), "run bar oven mixer")

    def test_one_to_four_machines(self):
        for many in (1, 2, 3, 4):
            deeds = (("run", "roll", ("box", "mixer", "tub", "pan")[:many]),)
            self.assertEqual(Plan(BIG, deeds).deeds, deeds)

    def test_the_most_deeds_in_any_order(self):
        for deeds in (MOST, MOST[::-1], (WIPE,) * 20, (RUN,) * 8, ((RUN, WIPE) * 10)[:16] + (WIPE,) * 4):
            plan = Plan(SMALL, deeds)
            self.assertEqual(plan.deeds, deeds)
            self.assertEqual(Plan.read(SMALL, str(plan)), plan)

    def test_names_like_the_words(self):
        works = Works((("run", 0, 0),), (("clean", 0, 0),), (("stuff", 0),), (("rule", ((0, 0),)),))
        plan = Plan.read(works, "run rule run\nclean run clean")
        self.assertEqual(plan.deeds, (("run", "rule", ("run",)), ("clean", "run", "clean")))


class Without(unittest.TestCase):
    def test_at_every_index(self):
        for deeds, works in ((DEEDS, BIG), (MOST, SMALL), ((RUN,), SMALL), ((WIPE,), SMALL)):
            plan = Plan(works, deeds)
            for at in range(len(deeds)):
                rest = plan.without(at)
                self.assertIs(type(rest), Plan)
                self.assertEqual(rest.deeds, deeds[:at] + deeds[at + 1:])
                self.assertEqual(rest.works, works)
                self.assertEqual(rest, Plan(works, deeds[:at] + deeds[at + 1:]))
                self.assertEqual(len(rest), len(plan) - (deeds[at][0] == "run"))
                self.assertEqual(str(rest), text_of(rest.deeds))
            self.assertIs(plan.deeds, deeds)

    def test_no_index_of_a_deed(self):
        for plan in (Plan(BIG, DEEDS), DIRTY, CLEAN, Plan(SMALL, ())):
            many = len(plan.deeds)
            for index in OTHERS + (many, many + 1, -many, "0", (0,), [0], [], SMALL, plan):
                check(self, InvalidIndex, "given", index, plan.without, index)
                check(self, InvalidIndex, "given", index, plan.without, index=index)

    def test_the_example(self):
        self.assertEqual(str(CLEAN.without(0)), "clean mixer rinse\nrun cake mixer")


class Equality(unittest.TestCase):
    def test_equal(self):
        plan = Plan(BIG, DEEDS)
        other = Plan(Works.read(BIG_TEXT), tuple(list(DEEDS)))
        for left, right in ((plan, plan), (plan, other), (other, plan), (plan, Plan.read(BIG, TEXT)),
                            (Plan(SMALL, ()), Plan.read(SMALL, ""))):
            self.assertIs(left == right, True)
            self.assertIs(left != right, False)

    def test_unequal_by_the_deeds(self):
        plan = Plan(BIG, DEEDS)
        others = [DEEDS[:at] + DEEDS[at + 1:] for at in range(len(DEEDS))] + [DEEDS[::-1], (), DEEDS + DEEDS[:1]]
        others += [(("run", "cake", ("mixer", "oven")) if deed == DEEDS[1] else deed for deed in DEEDS)]
        others += [(("run", "bar", ("mixer", "belt")) if deed == DEEDS[1] else deed for deed in DEEDS)]
        others += [(("clean", "mixer", "scrub") if deed == DEEDS[2] else deed for deed in DEEDS)]
        others += [(("clean", "belt", "rinse") if deed == DEEDS[2] else deed for deed in DEEDS)]
        for deeds in others:
            other = Plan(BIG, tuple(deeds))
            for left, right in ((plan, other), (other, plan)):
                self.assertIs(left == right, False)
                self.assertIs(left != right, True)

    def test_unequal_by_the_works(self):
        for change in (("mixer 100 200", "mixer 100 201"), ("nuts 30", "nuts 31"), ("cake 0-0", "cake 0-1"),
                       ("\nproduct roll 5-10 2-3", "")):
            other = Works.read(BIG_TEXT.replace(*change))
            for deeds in (DEEDS, ()):
                self.assertIs(Plan(BIG, deeds) == Plan(other, deeds), False)
                self.assertIs(Plan(BIG, deeds) != Plan(other, deeds), True)

    def test_unequal_to_values_of_other_classes(self):
        for plan in (DIRTY, Plan(SMALL, ())):
            for other in OTHERS + (SMALL, RULE, str(plan), plan.deeds, plan.lots, len(plan), 0, Always()):
                self.assertIs(plan == other, False)
                self.assertIs(plan != other, True)


class Read(unittest.TestCase):
    def refused(self, text, works=BIG):
        check(self, InvalidText, "given", text, Plan.read, works, text)

    def test_what_was_read_has_this_text(self):
        for works, text in ((BIG, TEXT), (SMALL, ""), (SMALL, "run bar mixer"), (SMALL, "clean mixer rinse"),
                            (BIG, "run roll tub"), (SMALL, text_of(MOST)), (BIG, TEXT + "\n" + TEXT)):
            plan = Plan.read(works, text)
            self.assertIs(type(plan), Plan)
            self.assertEqual(str(plan), text)
            self.assertIs(plan.works, works)
            self.assertEqual(plan, Plan(works, plan.deeds))

    def test_the_deeds_that_were_read(self):
        self.assertEqual(Plan.read(BIG, TEXT).deeds, DEEDS)
        self.assertEqual(Plan.read(SMALL, text_of(MOST)).deeds, MOST)
        self.assertEqual(Plan.read(SMALL, "").deeds, ())

    def test_no_strings(self):
        for text in OTHERS:
            if text != "" or not isinstance(text, str):
                self.refused(text)
        for text in (TEXT.encode(), TEXT.split("\n"), (TEXT,), DEEDS, Plan(BIG, DEEDS), BIG):
            self.refused(text)

    def test_lines(self):
        for text in ("\n", " ", "\n\n", " \n", TEXT + "\n", "\n" + TEXT, TEXT + "\n ", " " + TEXT, TEXT + " "):
            self.refused(text)

    def test_needless_and_other_signs_anywhere(self):
        for text in damaged(TEXT):
            self.refused(text)

    def words_changed(self, line):
        """The line with one word left out or doubled, or two of them exchanged."""
        words = line.split(" ")
        found = [words[:at] + words[at + 1:] for at in range(len(words))]
        found += [words[:at] + [words[at]] + words[at:] for at in range(len(words))]
        found += [words[:at] + [words[at + 1], words[at]] + words[at + 2:] for at in range(len(words) - 1)]
        found += [[word.upper() if word == other else other for other in words] for word in words]
        return [" ".join(changed) for changed in found]

    def test_words_left_out_doubled_and_exchanged(self):
        for line in ("run bar mixer", "clean mixer rinse"):
            Plan.read(SMALL, line)
            for changed in self.words_changed(line):
                self.refused(changed, SMALL)
                self.refused("run cake mixer\n" + changed, SMALL)
                self.refused(changed + "\nclean mixer rinse", SMALL)

    def test_words_and_names_of_another_kind(self):
        for text in (
            "Run bar mixer", "runs bar mixer", "ran bar mixer", "clean bar mixer", "cleaning mixer rinse", "rule mixer",
            "mixer", "bar", "bar mixer", "mixer rinse", "run", "clean", "run bar", "clean mixer", "run mixer",
            "run mixer bar", "run mixer mixer", "run rinse mixer", "run nuts mixer", "run bar rinse", "run bar nuts",
            "run bar bar",
            "run bar nothing", "run nothing mixer", "clean bar rinse", "clean rinse rinse", "clean rinse mixer",
            "clean nuts rinse", "clean mixer bar", "clean mixer mixer", "clean mixer nuts", "clean mixer -",
            "clean nothing rinse", "clean mixer nothing", "run bar mixer bar", "run bar mixer rinse", "run cake, mixer",
            "('run', 'bar', ('mixer',))", "run bar (mixer)", "clean mixer rinse rinse", "clean mixer rinse oven",
        ):
            self.refused(text)
            self.refused(TEXT + "\n" + text)

    def test_the_machines_of_a_run(self):
        names = ("mixer", "oven", "belt", "pan", "tub", "box")
        for many in range(7):
            text = " ".join(("run", "bar") + names[:many])
            if 1 <= many <= 4:
                self.assertEqual(Plan.read(BIG, text).deeds, (("run", "bar", names[:many]),))
            else:
                self.refused(text)
        for machines in ("mixer mixer", "mixer oven mixer", "oven mixer mixer", "pan belt oven pan"):
            self.refused("run bar " + machines)

    def test_the_ninth_run_and_the_twenty_first_deed(self):
        self.refused(text_of((RUN,) * 9), SMALL)
        self.refused(text_of((RUN,) * 8 + (WIPE,) * 3 + (RUN,)), SMALL)
        self.refused(text_of((WIPE,) * 21), SMALL)
        self.refused(text_of(MOST + (WIPE,)), SMALL)
        self.refused(text_of((RUN,) * 40), SMALL)

    def test_names_of_other_works(self):
        self.refused("run roll mixer", SMALL)
        self.refused("run bar oven", SMALL)
        self.refused("clean oven rinse", SMALL)
        self.refused("clean mixer scrub", SMALL)

    def test_not_works(self):
        for works in OTHERS + (str(SMALL), DIRTY, RULE, 0):
            for text in (TEXT, "", "\n", None, 0, []):
                check(self, NotWorks, "given", works, Plan.read, works, text)
        check(self, NotWorks, "given", None, Plan.read, text=None, works=None)


class Refused(unittest.TestCase):
    def refused(self, index, deeds, works=BIG):
        check(self, InvalidDeeds, "index", index, Plan, works, deeds)

    def test_not_works(self):
        for works in OTHERS + (str(SMALL), DIRTY, RULE, 0):
            for deeds in (DEEDS, (), None, [], (None,)):
                check(self, NotWorks, "given", works, Plan, works, deeds)
        check(self, NotWorks, "given", "x", Plan, deeds=None, works="x")

    def test_no_tuples(self):
        for deeds in ANYTHING + (list(DEEDS), [], TEXT, {deed: 1 for deed in DEEDS}, Plan(BIG, DEEDS), BIG, 0):
            if not isinstance(deeds, tuple):
                self.refused(None, deeds)
                check(self, InvalidDeeds, "index", None, Plan, deeds=deeds, works=BIG)

    def everywhere(self, deed):
        """This deed is refused wherever it stands."""
        for at in range(len(DEEDS) + 1):
            self.refused(at, DEEDS[:at] + (deed,) + DEEDS[at:])

    def test_elements_of_any_kind(self):
        good = ("run", "bar", ("mixer",))
        for value in OTHERS:
            if value != good or isinstance(value, Always):
                self.everywhere(value)

    def test_elements_of_another_length(self):
        for deed in (("run",), ("clean",), ("run", "bar"), ("clean", "mixer"), ("run", "bar", ("mixer",), ()),
                     ("run", "bar", "mixer"), ("run", "bar", "mixer", "oven"), ("clean", "mixer", "rinse", "rinse"),
                     (("run", "bar", ("mixer",)),), ["run", "bar", ("mixer",)], ["clean", "mixer", "rinse"],
                     ("clean", "mixer", "rinse", None), ("run", "bar", ("mixer",), None)):
            self.everywhere(deed)

    def test_values_of_any_kind_in_each_place(self):
        for value in OTHERS + (0, 1, nested("run", 2), "run ", "clean ", "RUN"):
            self.everywhere((value, "bar", ("mixer",)))
            self.everywhere((value, "mixer", "rinse"))
            self.everywhere(("run", value, ("mixer",)))
            self.everywhere(("run", "bar", (value,)))
            self.everywhere(("run", "bar", ("mixer", value)))
            self.everywhere(("run", "bar", (value, "mixer", "oven")))
            self.everywhere(("clean", value, "rinse"))
            self.everywhere(("clean", "mixer", value))
            if not isinstance(value, tuple) or value != ("mixer",):
                self.everywhere(("run", "bar", value))

    def test_names_of_other_kinds(self):
        names = {"mixer": "machine", "rinse": "cleaning", "nuts": "stuff", "bar": "product", "run": None, "clean": None,
                 "-": None}
        for name, kind in names.items():
            if kind != "machine":
                self.everywhere(("run", "bar", (name,)))
                self.everywhere(("run", "bar", ("oven", name)))
                self.everywhere(("clean", name, "rinse"))
            if kind != "cleaning":
                self.everywhere(("clean", "mixer", name))
            if kind != "product":
                self.everywhere(("run", name, ("mixer",)))
            self.everywhere((name, "mixer", "rinse") if name != "clean" else (name, "rinse", "mixer"))
            self.everywhere((name, "bar", ("mixer",)) if name != "run" else (name, "mixer", ("bar",)))

    def test_words_exchanged(self):
        self.everywhere(("clean", "bar", ("mixer",)))
        self.everywhere(("run", "mixer", "rinse"))
        self.everywhere(("clean", "mixer", ("rinse",)))
        self.everywhere(("run", "bar", "mixer"))
        self.everywhere(("clean", "rinse", "mixer"))

    def test_the_machines_of_a_run(self):
        for machines in (
            (), ("mixer", "mixer"), ("mixer", "oven", "mixer"), ("mixer", "oven", "belt", "pan", "tub"),
            ("mixer", "oven", "belt", "pan", "mixer"), ["mixer"], ["mixer", "oven"], [], "mixer", {"mixer": 1},
            {"mixer"}, None, (("mixer",),), ("mixer",) * 1000, (None,) * 1000,
        ):
            self.everywhere(("run", "bar", machines))

    def test_names_of_other_works(self):
        for deed in (("run", "roll", ("mixer",)), ("run", "bar", ("oven",)), ("clean", "oven", "rinse"),
                     ("clean", "mixer", "scrub")):
            Plan(BIG, (deed,))
            self.refused(1, (RUN, deed), SMALL)

    def test_the_ninth_run(self):
        self.refused(8, (RUN,) * 9, SMALL)
        self.refused(8, (RUN,) * 12, SMALL)
        for between in range(12):
            self.refused(8 + between, (RUN,) * 8 + (WIPE,) * between + (RUN, WIPE), SMALL)
            self.refused(8 + between, (WIPE,) * between + (RUN,) * 9, SMALL)
        self.refused(8, (RUN,) * 9 + (None,), SMALL)
        self.refused(7, (RUN,) * 7 + (None,) + (RUN,) * 9, SMALL)

    def test_the_twenty_first_deed(self):
        for more in (1, 2, 10 ** 4):
            self.refused(20, (WIPE,) * (20 + more), SMALL)
        self.refused(20, MOST + (WIPE,), SMALL)
        self.refused(20, MOST + (RUN,), SMALL)
        self.refused(20, MOST + (None,), SMALL)
        self.refused(19, MOST[:19] + (None, WIPE), SMALL)
        self.refused(0, (None,) + MOST + MOST, SMALL)

    def test_the_first_index(self):
        self.refused(1, (RUN, None, WIPE, None), SMALL)
        self.refused(0, (("run", "bar", []), None), SMALL)
        self.refused(3, (RUN, WIPE, RUN, ("clean", "mixer", "bar"), ("run",)), SMALL)

    def test_nothing_that_is_passed_is_changed(self):
        deeds = [list(RUN), WIPE]
        self.refused(None, deeds, SMALL)
        self.assertEqual(deeds, [["run", "bar", ("mixer",)], ("clean", "mixer", "rinse")])
        machines = ["mixer", "mixer"]
        self.refused(0, (("run", "bar", machines),), SMALL)
        self.assertEqual(machines, ["mixer", "mixer"])


if __name__ == "__main__":
    unittest.main()
