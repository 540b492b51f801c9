import random
import unittest

from forward import greatest_plan, small_plans
from samples import BIG, CLEAN, DIRTY, OTHERS, RULE, SMALL, check
from ways import greatest_rule, some_rules

from tracebounds.amounts import greatest, verdict
from tracebounds.books import Book
from tracebounds.console import Console
from tracebounds.errors import InvalidLine, NotWorks
from tracebounds.ever import first_above, lot_ever

WEEK = "plan week: run bar mixer / clean mixer rinse / run cake mixer"
HOUSE = "rule house: rule mixer / bar bar - / bar cake rinse / cake cake - / cake bar -"
LOOSE = "rule house: rule mixer / bar bar - / bar cake - / cake cake - / cake bar -"


def one_line(part):
    return str(part).replace("\n", " / ")


class Lines(unittest.TestCase):
    def said(self, console, *rows):
        """Each of these lines has its answer, in their order."""
        for line, answer in rows:
            told = console.say(line)
            self.assertIs(type(told), str)
            self.assertEqual(told, answer, line)

    def filled(self):
        console = Console(SMALL)
        self.said(console, (WEEK, "ok"), (HOUSE, "ok"), ("plan dirty: run bar mixer / run cake mixer", "ok"),
                  ("most week 1 nuts 18", "ok"), ("keeps house", "ok"))
        return console

    def test_each_form(self):
        console = self.filled()
        self.said(
            console, ("names", "dirty house week"), ("verdicts week", "bar contained\ncake needless"),
            ("verdicts dirty", "bar contained\ncake needed"), ("above house", "none"), ("least dirty 1 nuts 80", "ok"),
            ("ever house cake nuts 23", "ok"), ("lift 0", "ok"), ("drop week", "ok"), ("names", "dirty house"),
            ("undo", "ok"), ("names", "dirty house week"), ("undo", "ok"), ("drop week", "InUse"))

    def test_by_name(self):
        self.assertEqual(Console(works=SMALL).say(line="names"), "none")

    def test_the_claims(self):
        console = self.filled()
        self.said(
            console, ("most week 1 nuts 17", "Broken"), ("most week 1 nuts 18", "ok"), ("most dirty 1 nuts 179", "Broken"),
            ("most dirty 1 nuts 180", "ok"), ("least dirty 1 nuts 81", "Broken"), ("least dirty 1 nuts 80", "ok"),
            ("least week 1 nuts 0", "ok"), ("ever house cake nuts 22", "Broken"), ("ever house cake nuts 23", "ok"),
            ("ever house bar nuts 1124", "Broken"), ("ever house bar nuts 1125", "ok"), ("keeps week", "Broken"),
            ("most house 0 nuts 9", "Broken"), ("most none 0 nuts 9", "Broken"), ("most week 2 nuts 9", "Broken"),
            ("most week 0 milk 9", "Broken"), ("ever week bar nuts 9", "Broken"), ("ever house roll nuts 9999", "Broken"),
            ("ever house nuts bar 9999", "Broken"), ("keeps none", "Broken"),
            ("most week 10000000000000000000000 nuts 9", "Broken"))

    def test_numbers_of_claims(self):
        console = self.filled()
        self.said(
            console, ("most week 0 nuts 10000000000000", "ok"), ("most week 0 nuts 10000000000001", "InvalidClaim"),
            ("least week 0 nuts 10000000000000", "Broken"), ("least week 0 nuts 10000000000001", "InvalidClaim"),
            ("ever house bar nuts 10000000000000", "ok"), ("ever none bar nuts 10000000000001", "InvalidClaim"),
            ("least week 0 nuts 0", "ok"), ("most week 0 nuts " + "9" * 400, "InvalidClaim"),
            ("lift " + "9" * 400, "InvalidIndex"), ("most week " + "9" * 400 + " nuts 18", "Broken"))

    def test_put_again(self):
        console = self.filled()
        self.said(
            console, ("plan week: run bar mixer / run cake mixer", "Broken"), (LOOSE, "Broken"),
            (LOOSE.replace("house", "week"), "Broken"), ("plan house: ", "Broken"), ("lift 0", "ok"),
            ("plan week: run bar mixer / run cake mixer", "ok"), (LOOSE, "Broken"),
            ("verdicts week", "bar contained\ncake needed"), ("lift 0", "ok"), (LOOSE, "ok"), ("above house", "cake nuts"),
            ("plan house: run cake mixer", "ok"), ("verdicts house", "cake needless"), ("above house", "NotARule"))

    def test_what_is_refused_changes_nothing(self):
        console = self.filled()
        for line in ("plan week: run bar mixer / run cake mixer", "plan more: run", "drop week", "most week 1 nuts 17",
                     "lift 2", "verdicts none", "names", "above week", "verdicts house"):
            console.say(line)
        self.said(console, ("undo", "ok"), ("drop house", "ok"), ("undo", "ok"), ("undo", "ok"), ("drop week", "ok"))

    def test_undo(self):
        console = Console(SMALL)
        self.said(
            console, ("undo", "NothingToUndo"), (WEEK, "ok"), (WEEK, "ok"), ("undo", "ok"), ("names", "week"),
            ("undo", "ok"), ("names", "none"), ("undo", "NothingToUndo"))

    def test_drop_and_lift(self):
        console = self.filled()
        self.said(
            console, ("drop none", "UnknownName"), ("drop bar", "UnknownName"), ("drop house", "InUse"),
            ("lift 2", "InvalidIndex"), ("lift 1", "ok"), ("drop house", "ok"), ("drop house", "UnknownName"),
            ("lift 1", "InvalidIndex"), ("lift 0", "ok"), ("lift 0", "InvalidIndex"))

    def test_names(self):
        console = Console(SMALL)
        self.said(console, ("names", "none"), ("plan z: ", "ok"), ("names", "z"), ("rule abcdefgh: rule mixer", "ok"),
                  ("plan none: ", "ok"), ("plan names: ", "ok"), ("names", "abcdefgh names none z"))

    def test_verdicts(self):
        console = Console(BIG)
        self.said(
            console, ("plan a: ", "ok"), ("verdicts a", "none"), ("plan b: clean mixer rinse", "ok"), ("verdicts b", "none"),
            ("plan c: run roll pan mixer / run cake tub", "ok"),
            ("verdicts c", "roll contained contained\ncake needless contained"), ("verdicts d", "UnknownName"),
            ("rule r: rule mixer", "ok"), ("verdicts r", "NotAPlan"), ("above c", "NotARule"), ("above d", "UnknownName"),
            ("above r", "none"))

    def test_texts(self):
        console = Console(SMALL)
        self.said(
            console, ("plan a: ", "ok"), ("verdicts a", "none"), ("rule a: ", "InvalidText"), ("rule a: rule mixer", "ok"),
            ("rule a: rule oven", "InvalidText"), ("rule a: rule mixer / bar bar", "InvalidText"),
            ("rule a: rule mixer / bar bar - / bar bar -", "InvalidText"), ("rule a: run bar mixer", "InvalidText"),
            ("plan a: rule mixer", "InvalidText"), ("plan a: run bar", "InvalidText"), ("plan a:  run bar mixer", "InvalidText"),
            ("plan a: run bar mixer ", "InvalidText"), ("plan a: run bar mixer /", "InvalidText"),
            ("plan a: run bar mixer / ", "InvalidText"), ("plan a: run bar mixer/ run bar mixer", "InvalidText"),
            ("plan a: run bar mixer /run bar mixer", "InvalidText"), ("plan a: run bar mixer/run bar mixer", "InvalidText"),
            ("plan a: run bar mixer  / run bar mixer", "InvalidText"), ("plan a: run bar mixer /  run bar mixer", "InvalidText"),
            ("plan a: run bar mixer / / run bar mixer", "InvalidText"), ("plan a:  / ", "InvalidText"),
            ("plan a: a: b: c", "InvalidText"), ("plan a: : ", "InvalidText"), ("plan a: nothing", "InvalidText"),
            ("plan a: RUN BAR MIXER", "InvalidText"), ("plan a:   ", "InvalidText"), ("plan a: \t", "InvalidText"),
            ("plan a: " + " / ".join(["run bar mixer"] * 9), "InvalidText"), ("verdicts a", "NotAPlan"),
            ("plan a: " + " / ".join(["run bar mixer"] * 8), "ok"), ("verdicts a", "\n".join(["bar contained"] * 8)))

    def test_a_rule_that_does_not_keep_the_limits(self):
        console = Console(BIG)
        self.said(console, ("rule r: rule oven / bar cake - / cake bar -", "ok"), ("above r", "bar milk"),
                  ("keeps r", "Broken"), ("rule r: rule oven / bar cake -", "ok"), ("above r", "cake nuts"),
                  ("rule r: rule pan / bar cake -", "ok"), ("above r", "none"), ("keeps r", "ok"))


class NoLines(unittest.TestCase):
    def setUp(self):
        self.console = Console(SMALL)
        self.console.say(WEEK)
        self.console.say(HOUSE)

    def refused(self, line):
        check(self, InvalidLine, "given", line, self.console.say, line)

    def test_values_that_are_no_strings(self):
        for value in OTHERS + (0, ["names"], ("names",), b"names", SMALL, CLEAN, self.console):
            self.refused(value)

    def test_words(self):
        for line in ("", " ", "\n", "name", "Names", "NAMES", "names week", "names ", " names", "names\n", "undo 1", "undo ",
                     "Undo", "undo\n", "redo", "drop", "drop ", "drop week house", "drop week ", "drop  week", " drop week",
                     "lift", "lift ", "lift 0 0", "lift 0 ", "most", "least", "keeps", "keeps ", "keeps week house", "ever",
                     "verdicts", "verdicts ", "verdicts week 0", "above", "above house nuts", "put week", "at most week",
                     "claim keeps house", "exit", "help", "plan", "rule", "plan ", "plan week", "rule week", "?", ":", ": "):
            self.refused(line)

    def test_numbers(self):
        for number in ("", "-1", "+1", "01", "00", "1.0", "1_0", "0x1", "one", "1e3", "\u0661", "\xb2", "1,000", "None", "True",
                       "1\n", "-0", "week"):
            for line in ("lift {}", "most week {} nuts 18", "most week 1 nuts {}", "least week {} nuts 0",
                         "least week 1 nuts {}", "ever house bar nuts {}"):
                self.refused(line.format(number))

    def test_names(self):
        for name in ("", "Week", "we-k", "weekweekw", "week1", "1", "0", "-", "_", "we\tk", "week\n", "w\xe9ek", ".", "we:k"):
            for line in ("drop {}", "keeps {}", "verdicts {}", "above {}", "most {} 1 nuts 18", "most week 1 {} 18",
                         "least {} 1 nuts 0", "least week 1 {} 0", "ever {} bar nuts 9", "ever house {} nuts 9",
                         "ever house bar {} 9", "plan {}: run bar mixer", "rule {}: rule mixer", "plan {}: ", "plan {}:"):
                self.refused(line.format(name))

    def test_a_part_too_many_or_too_few(self):
        for line in ("most week 1 nuts 18", "least week 1 nuts 0", "ever house bar nuts 2000", "keeps house", "drop week",
                     "lift 0", "verdicts week", "above house", "undo", "names"):
            words = line.split(" ")
            for at in range(len(words)):
                self.refused(" ".join(words[:at] + words[at + 1:]))
                self.refused(" ".join(words[:at] + [""] + words[at:]))
                self.refused(" ".join(words[:at] + words[at:at + 1] + words[at:]))
                if at:
                    self.refused(" ".join(words[:at]) + "\n" + " ".join(words[at:]))
                    self.refused(" ".join(words[:at]) + "\t" + " ".join(words[at:]))
                    self.refused(" ".join(words[:at]) + ": " + " ".join(words[at:]))
            for more in (" ", "\n", " x", " 0", ":", ": ", ": run bar mixer", ".", ";"):
                self.refused(line + more)
                self.refused(more + line)

    def test_heads_of_texts(self):
        for line in ("plan week:", "plan week:run bar mixer", "plan week : run bar mixer", "plan  week: run bar mixer",
                     " plan week: run bar mixer", "plan: run bar mixer", "plan : run bar mixer", "week: run bar mixer",
                     "Plan week: run bar mixer", "plan week house: run bar mixer", "plan week run bar mixer",
                     "plan week; run bar mixer", "rule house:", "rule: rule mixer", "plans week: ", "put week: run bar mixer",
                     "plan week:\trun bar mixer", "plan week:\nrun bar mixer", "plan\nweek: run bar mixer"):
            self.refused(line)

    def test_texts_with_newlines(self):
        for line in ("plan week: \n", "plan week: run bar mixer\n", "plan week: run bar mixer\nrun cake mixer",
                     "plan week: \nrun bar mixer", "rule house: rule mixer\nbar bar -", "rule house: rule mixer\n"):
            self.refused(line)

    def test_nothing_is_changed(self):
        for line in ("plan week:", "drop", "undo ", "lift", "most week 1 nuts", "plan more: \n"):
            self.refused(line)
        self.assertEqual(self.console.say("names"), "house week")
        self.assertEqual([self.console.say("undo") for _ in range(3)], ["ok", "ok", "NothingToUndo"])


class Consoles(unittest.TestCase):
    def test_no_works(self):
        for works in OTHERS + (0, str(SMALL), CLEAN, RULE, Book(SMALL), Console(SMALL)):
            check(self, NotWorks, "given", works, Console, works)
            check(self, NotWorks, "given", works, Console, works=works)

    def test_a_console_equals_itself_alone(self):
        console = Console(SMALL)
        self.assertTrue(console)
        self.assertIs(console == console, True)
        self.assertIs(console != console, False)
        for value in OTHERS + (Console(SMALL), Console, Book(SMALL), SMALL, 0, "none"):
            self.assertIs(console == value, False)
            self.assertIs(console != value, True)
        console.say(WEEK)
        self.assertIs(console == console, True)

    def test_consoles_have_books_of_their_own(self):
        one, two = Console(SMALL), Console(SMALL)
        one.say(WEEK)
        self.assertEqual((one.say("names"), two.say("names")), ("week", "none"))


class AgainstABook(unittest.TestCase):
    def test_the_greatest_plans_and_rules(self):
        plan = greatest_plan(1)
        console = Console(plan.works)
        self.assertEqual(console.say("plan a: " + one_line(plan)), "ok")
        self.assertEqual(console.say("verdicts a"), "\n".join(
            f"{product} {verdict(plan, lot, 'nuts')}" for lot, product in enumerate(plan.lots)))
        for lot in range(8):
            top, bottom = greatest(plan, lot, "nuts")
            self.assertEqual(console.say(f"most a {lot} nuts {-(-top // bottom)}"), "ok")
            self.assertEqual(console.say(f"most a {lot} nuts {-(-top // bottom) - 1}"), "Broken")
        rule = greatest_rule(1)
        console = Console(rule.works)
        self.assertEqual(console.say("rule r: " + one_line(rule)), "ok")
        self.assertEqual(console.say("above r"), " ".join(first_above(rule)))

    def test_plans_and_rules(self):
        dice = random.Random(2)
        for plan in small_plans(30):
            console = Console(plan.works)
            self.assertEqual(console.say("plan a: " + one_line(plan)), "ok")
            self.assertEqual(console.say("verdicts a"), "\n".join(
                " ".join([product] + [verdict(plan, lot, stuff) for stuff, _ in plan.works.stuffs])
                for lot, product in enumerate(plan.lots)))
        for rule in some_rules(60):
            console = Console(rule.works)
            self.assertEqual(console.say("rule r: " + one_line(rule)), "ok")
            self.assertEqual(console.say("above r"), " ".join(first_above(rule) or ("none",)))
            self.assertEqual(console.say("keeps r"), "Broken" if first_above(rule) else "ok")
            product, stuff = dice.choice(rule.works.products)[0], "nuts"
            amount = lot_ever(rule, product, stuff)
            whole = 10 ** 13 if amount is None else amount[0] // amount[1]
            self.assertEqual(console.say(f"ever r {product} {stuff} {whole}"),
                             "ok" if amount and amount[1] == 1 else "Broken")

    def test_the_dirty_plan(self):
        console = Console(SMALL)
        self.assertEqual(console.say("plan dirty: " + one_line(DIRTY)), "ok")
        self.assertEqual(console.say("verdicts dirty"), "bar contained\ncake needed")


if __name__ == "__main__":
    unittest.main()
