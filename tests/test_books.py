import random
import unittest

from forward import greatest_plan, some_plan
from samples import BIG, CLEAN, DIRTY, OTHERS, RULE, SMALL, Always, check, nested
from ways import greatest_rule, some_rule, with_works

from tracebounds.amounts import greatest, least
from tracebounds.books import Book
from tracebounds.errors import (
    Broken,
    InUse,
    InvalidClaim,
    InvalidDeeds,
    InvalidIndex,
    InvalidName,
    NotAPart,
    NothingToUndo,
    NotWorks,
    UnknownName,
)
from tracebounds.ever import ever, first_above, lot_ever
from tracebounds.plans import Plan
from tracebounds.rules import Rule
from tracebounds.works import Works

LOOSE = RULE.changed("bar", "cake", "-")
NO_NAMES = OTHERS + (0, "-", "Week", "we ek", "weekweekw", ("week",), ["week"], nested("week", 3), CLEAN, RULE, SMALL)
CLAIMS = (("at most", "week", 1, "nuts", 18), ("keeps", "house"), ("ever", "house", "cake", "nuts", 23),
          ("at least", "dirty", 1, "nuts", 80))


def filled():
    """A book with three names and four claims, each of which just holds."""
    book = Book(SMALL)
    book["week"] = CLEAN
    book["house"] = RULE
    book["dirty"] = DIRTY
    for claim in CLAIMS:
        book.claim(claim)
    return book


def state(book):
    """All that can be seen of a book, with what each change that can be taken back leads to."""
    def now():
        return (book.names, tuple(book[name] for name in book.names), book.claims, book.changes, len(book), bool(book))

    def back(_):
        found = [now()]
        while book.changes:
            book.undo()
            found.append(now())
        return found

    return book.tried(back)


class Unchanged:
    """For a with statement: what is raised within changes nothing of the book."""

    def __init__(self, case, *books):
        self.case, self.books = case, books

    def __enter__(self):
        self.before = [state(book) for book in self.books]

    def __exit__(self, *_):
        self.case.assertEqual([state(book) for book in self.books], self.before)


class Stop(Exception):
    """No error of the package."""


class Examples(unittest.TestCase):
    def test_all(self):
        book = Book(SMALL)
        self.assertEqual(
            [book.do_all(("put", "week", CLEAN), ("put", "house", RULE), ("claim", ("at most", "week", 1, "nuts", 18)),
                         ("claim", ("keeps", "house"))), book.names, book.changes],
            [4, ("house", "week"), 4])
        check(self, Broken, "index", 0, book.do_all, ("put", "week", DIRTY))
        self.assertEqual((book["week"], book.changes), (CLEAN, 4))

    def test_by_name(self):
        book = Book(works=SMALL)
        book["week"] = CLEAN
        book.claim(claim=("at most", "week", 1, "nuts", 18))
        book.lift(index=0)
        book.drop(name="week")
        self.assertEqual(book.do_all(("put", "week", CLEAN), watch=None), 1)
        self.assertEqual(book.tried(action=len), 1)
        self.assertEqual(book.changes, 5)


class Parts(unittest.TestCase):
    def test_an_empty_book(self):
        book = Book(SMALL)
        self.assertEqual((len(book), bool(book), book.names, book.claims, book.changes), (0, False, (), (), 0))
        self.assertIs(book.works, SMALL)
        self.assertNotIn("week", book)
        self.assertRaises(NothingToUndo, book.undo)

    def test_put_and_read(self):
        book = Book(SMALL)
        for name, part in (("week", CLEAN), ("a", DIRTY), ("house", RULE), ("weekweek", RULE), ("z", Plan(SMALL, ()))):
            book[name] = part
            self.assertIs(book[name], part)
            self.assertIs(name in book, True)
        self.assertEqual((book.names, len(book), bool(book)), (("a", "house", "week", "weekweek", "z"), 5, True))
        self.assertIs(type(book.names), tuple)
        self.assertEqual(book.changes, 5)

    def test_in_the_place_of_what_is_there(self):
        book = Book(SMALL)
        for part in (CLEAN, DIRTY, RULE, CLEAN, CLEAN):
            book["week"] = part
            self.assertIs(book["week"], part)
            self.assertEqual((book.names, len(book)), (("week",), 1))
        self.assertEqual(book.changes, 5)

    def test_the_methods_return_nothing(self):
        book = filled()
        self.assertIsNone(book.claim(("keeps", "house")))
        self.assertIsNone(book.lift(4))
        self.assertIsNone(book.undo())
        book["more"] = CLEAN
        self.assertIsNone(book.drop("more"))
        self.assertIsNone(book.__setitem__("more", CLEAN))

    def test_drop(self):
        book = filled()
        book["more"] = CLEAN
        book.drop("more")
        self.assertEqual((book.names, "more" in book), (("dirty", "house", "week"), False))
        check(self, UnknownName, "given", "more", book.drop, "more")
        check(self, UnknownName, "given", "more", book.__getitem__, "more")

    def test_in_with_values_of_any_kind(self):
        book = filled()
        for value in NO_NAMES:
            self.assertIs(value in book, False)
            self.assertIs(value not in book, True)

    def test_unknown_names(self):
        book = filled()
        for value in NO_NAMES + ("weeks", "wee", "nuts", "bar", "mixer"):
            with Unchanged(self, book):
                check(self, UnknownName, "given", value, book.__getitem__, value)
                check(self, UnknownName, "given", value, book.drop, value)

    def test_invalid_names(self):
        book = filled()
        for value in NO_NAMES + ("weekweekw", "week\n", "w-k", "week1"):
            if value not in ("nothing", "mixe", "run"):
                for part in (CLEAN, None, DIRTY):
                    with Unchanged(self, book):
                        check(self, InvalidName, "given", value, book.__setitem__, value, part)

    def test_no_parts(self):
        book = filled()
        for part in OTHERS + (0, SMALL, book, Book, str(CLEAN), CLEAN.deeds, RULE.table):
            for name in ("week", "house", "more"):
                with Unchanged(self, book):
                    check(self, NotAPart, "given", part, book.__setitem__, name, part)

    def test_parts_of_other_works(self):
        book = filled()
        other = Works.read(str(SMALL).replace("nuts 30", "nuts 31"))
        for part in (Plan(other, CLEAN.deeds), Rule(other, "mixer", RULE.table), Plan(BIG, ())):
            with Unchanged(self, book):
                check(self, NotAPart, "given", part, book.__setitem__, "week", part)
                check(self, NotAPart, "given", part, book.__setitem__, "more", part)

    def test_works_with_an_equal_text_are_the_same(self):
        same = Works.read(str(SMALL))
        book = Book(SMALL)
        plan, rule = Plan(same, CLEAN.deeds), Rule(same, "mixer", RULE.table)
        book["week"], book["house"] = plan, rule
        self.assertIs(book["week"], plan)
        self.assertIs(book["house"], rule)
        self.assertIs(book.works, SMALL)
        book.claim(("at most", "week", 1, "nuts", 18))

    def test_in_use(self):
        book = filled()
        for name, at in (("week", 0), ("house", 1), ("dirty", 3)):
            with Unchanged(self, book):
                check(self, InUse, "index", at, book.drop, name)
        book.lift(1)
        check(self, InUse, "index", 1, book.drop, "house")
        book.lift(1)
        book.drop("house")
        check(self, InUse, "index", 1, book.drop, "dirty")
        check(self, UnknownName, "given", "house", book.drop, "house")

    def test_names_like_words(self):
        """Names of the works and words of claims are names of the book, too."""
        book = Book(SMALL)
        book["nuts"], book["bar"], book["keeps"] = CLEAN, RULE, RULE
        book.claim(("at most", "nuts", 1, "nuts", 18))
        book.claim(("ever", "bar", "bar", "nuts", 2000))
        book.claim(("keeps", "keeps"))
        check(self, InUse, "index", 1, book.drop, "bar")
        check(self, InUse, "index", 2, book.drop, "keeps")

    def test_no_works(self):
        for works in OTHERS + (0, str(SMALL), CLEAN, RULE, Book(SMALL)):
            check(self, NotWorks, "given", works, Book, works)
            check(self, NotWorks, "given", works, Book, works=works)

    def test_a_book_equals_itself_alone(self):
        book, other = filled(), filled()
        self.assertIs(book == book, True)
        self.assertIs(book != book, False)
        for value in OTHERS + (other, Book(SMALL), Book, SMALL, CLEAN, 0, book.names, book.trial()):
            self.assertIs(book == value, False)
            self.assertIs(book != value, True)
        before = book
        book["more"] = CLEAN
        self.assertIs(book == before, True)
        empty = Book(SMALL)
        self.assertIs(empty == Book(SMALL), False)

    def test_it_is_not_gone_through(self):
        self.assertRaises(TypeError, list, filled())

    def test_what_was_read_stays_as_it_was(self):
        book = filled()
        names, claims = book.names, book.claims
        book["more"] = CLEAN
        book.lift(0)
        book.do_all(("lift", 0), ("drop", "more"))
        self.assertEqual((names, claims), (("dirty", "house", "week"), CLAIMS))


class Claims(unittest.TestCase):
    def holds(self, book, claim):
        many = len(book.claims)
        book.claim(claim)
        self.assertIs(book.claims[-1], claim)
        self.assertEqual(len(book.claims), many + 1)

    def broken(self, book, claim):
        with Unchanged(self, book):
            check(self, Broken, "index", len(book.claims), book.claim, claim)

    def test_as_they_were_passed(self):
        book = filled()
        self.assertIs(type(book.claims), tuple)
        for told, claim in zip(book.claims, CLAIMS):
            self.assertIs(told, claim)

    def test_the_same_one_twice(self):
        book = filled()
        self.holds(book, CLAIMS[0])
        self.holds(book, CLAIMS[0])
        self.assertEqual(book.claims, CLAIMS + (CLAIMS[0], CLAIMS[0]))
        book.lift(0)
        self.assertEqual(book.claims, CLAIMS[1:] + (CLAIMS[0], CLAIMS[0]))

    def test_where_amounts_begin_to_hold(self):
        book = Book(SMALL)
        book["week"], book["dirty"] = CLEAN, DIRTY
        for name, lot, low, high in (("week", 0, 800, 900), ("week", 1, 0, 18), ("dirty", 1, 80, 180)):
            self.holds(book, ("at most", name, lot, "nuts", high))
            self.holds(book, ("at most", name, lot, "nuts", high + 1))
            self.broken(book, ("at most", name, lot, "nuts", high - 1))
            self.holds(book, ("at least", name, lot, "nuts", low))
            self.broken(book, ("at least", name, lot, "nuts", low + 1))
            if low:
                self.holds(book, ("at least", name, lot, "nuts", low - 1))
        self.holds(book, ("at most", "week", 0, "nuts", 10 ** 13))
        self.holds(book, ("at least", "week", 0, "nuts", 0))
        self.broken(book, ("at least", "week", 0, "nuts", 10 ** 13))
        self.broken(book, ("at most", "week", 0, "nuts", 0))

    def test_amounts_between_two_numbers(self):
        works = Works((("mixer", 500, 750),), (), (("nuts", 0),), (("bar", ((3, 7),)),))
        book = Book(works)
        book["week"] = Plan(works, (("run", "bar", ("mixer",)),))
        # From 3/4 to 7/2.
        for claim, right in ((("at most", 3), False), (("at most", 4), True), (("at least", 0), True),
                             (("at least", 1), False)):
            (self.holds if right else self.broken)(book, (claim[0], "week", 0, "nuts", claim[1]))

    def test_where_ever_begins_to_hold(self):
        book = Book(SMALL)
        book["house"] = RULE
        # 45 / 2 and 1125.
        for product, most in (("cake", 23), ("bar", 1125)):
            self.holds(book, ("ever", "house", product, "nuts", most))
            self.holds(book, ("ever", "house", product, "nuts", 10 ** 13))
            self.broken(book, ("ever", "house", product, "nuts", most - 1))
            self.broken(book, ("ever", "house", product, "nuts", 0))

    def test_ever_without_end(self):
        for low, right in ((0, False), (999, False), (1000, True)):
            works = Works((("mixer", low, 1000),), (("rinse", 0, 0),), (("nuts", 0),), (("bar", ((0, 1),)),))
            book = Book(works)
            book["house"] = Rule(works, "mixer", (("bar", "bar", "-"),))
            for number in (0, 10 ** 13):
                (self.holds if right else self.broken)(book, ("ever", "house", "bar", "nuts", number))
            self.holds(book, ("keeps", "house"))

    def test_keeps_at_the_limit(self):
        for limit, right in ((22, False), (23, True), (224, True)):
            rule = with_works(RULE, stuffs=(("nuts", limit),))
            book = Book(rule.works)
            book["house"] = rule
            (self.holds if right else self.broken)(book, ("keeps", "house"))

    def test_about_what_is_not_there(self):
        book = filled()
        for name in NO_NAMES + ("weeks", "bar", "mixer"):
            for claim in (("at most", name, 1, "nuts", 10 ** 13), ("at least", name, 1, "nuts", 0), ("keeps", name),
                          ("ever", name, "cake", "nuts", 10 ** 13)):
                self.broken(book, claim)
        for lot in OTHERS + (2, -1, -2, "0", (0,), [0]):
            self.broken(book, ("at most", "week", lot, "nuts", 10 ** 13))
            self.broken(book, ("at least", "week", lot, "nuts", 0))
        for stuff in OTHERS + (0, "bar", "week", "milk", ("nuts",), ["nuts"]):
            self.broken(book, ("at most", "week", 1, stuff, 10 ** 13))
            self.broken(book, ("at least", "week", 1, stuff, 0))
            self.broken(book, ("ever", "house", "cake", stuff, 10 ** 13))
        for product in OTHERS + (0, "nuts", "house", "roll", ("cake",), ["cake"]):
            self.broken(book, ("ever", "house", product, "nuts", 10 ** 13))

    def test_a_plan_in_the_place_of_a_rule_and_the_other_way_round(self):
        book = filled()
        self.broken(book, ("keeps", "week"))
        self.broken(book, ("ever", "week", "cake", "nuts", 10 ** 13))
        self.broken(book, ("at most", "house", 0, "nuts", 10 ** 13))
        self.broken(book, ("at least", "house", 0, "nuts", 0))

    def test_an_empty_plan_and_a_rule_without_a_table(self):
        book = Book(SMALL)
        book["week"], book["house"] = Plan(SMALL, ()), Rule(SMALL, "mixer", ())
        self.broken(book, ("at most", "week", 0, "nuts", 10 ** 13))
        self.holds(book, ("keeps", "house"))
        self.holds(book, ("ever", "house", "cake", "nuts", 0))

    def invalid(self, book, claim):
        with Unchanged(self, book):
            check(self, InvalidClaim, "given", claim, book.claim, claim)

    def test_no_claims(self):
        book = filled()
        for value in OTHERS + (0, "keeps", "keeps house", CLEAN, SMALL, ["keeps", "house"], ("keep", "house"),
                               ("Keeps", "house"), ("keeps ", "house"), (["keeps"], "house"), ("house", "keeps"),
                               (b"keeps", "house"), (Always(), "house"), (True, "house"), ("put", "week", CLEAN),
                               (Always(), "week", 1, "nuts", 18), ("most", "week", 1, "nuts", 18),
                               ("least", "week", 1, "nuts", 18), ("at  most", "week", 1, "nuts", 18),
                               ("above", "house", "cake", "nuts", 18), ("never", "house", "nuts", (18, 1))):
            self.invalid(book, value)

    def test_elements_more_or_less_and_lists(self):
        book = filled()
        for claim in CLAIMS:
            self.invalid(book, list(claim))
            self.invalid(book, (claim,))
            self.invalid(book, claim + (0,))
            self.invalid(book, claim + (None,))
            for many in range(len(claim)):
                self.invalid(book, claim[:many])
        self.invalid(book, ("at most", "house"))
        self.invalid(book, ("keeps", "week", 1, "nuts", 18))

    def test_numbers(self):
        book = filled()
        for claim in (CLAIMS[0], CLAIMS[2], CLAIMS[3], ("at most", None, None, None, 0)):
            for number in (-1, 10 ** 13 + 1, -10 ** 13, 10 ** 400, True, False, None, "18", (18, 1), [18], b"18",
                           Always(), {}, nested(18, 20), SMALL):
                self.invalid(book, claim[:-1] + (number,))
        for number in (0, 10 ** 13):
            self.broken(book, ("at most", None, None, None, number))
            self.broken(book, ("at least", [], {}, set(), number))
            self.broken(book, ("ever", Always(), Always(), Always(), number))

    def test_a_form_is_looked_for_before_it_holds(self):
        book = filled()
        for value in NO_NAMES:
            self.invalid(book, ("at most", value, 0, "nuts", -1))
            self.invalid(book, ("keeps", value, value))
            self.broken(book, ("keeps", value))

    def test_lift(self):
        book = filled()
        for index in OTHERS + (4, 5, -1, -4, "0", (0,), [0]):
            with Unchanged(self, book):
                check(self, InvalidIndex, "given", index, book.lift, index)
        left = list(CLAIMS)
        for index in (3, 0, 1, 0):
            book.lift(index)
            del left[index]
            self.assertEqual(book.claims, tuple(left))
        check(self, InvalidIndex, "given", 0, book.lift, 0)

    def test_a_part_with_which_a_claim_would_not_hold(self):
        book = filled()
        book.claim(("at least", "week", 0, "nuts", 800))
        book.claim(("at most", "dirty", 0, "nuts", 900))
        without = Plan(SMALL, CLEAN.deeds[2:])
        for name, part, at in (("week", DIRTY, 0), ("week", RULE, 0), ("week", Plan(SMALL, ()), 0), ("week", without, 0),
                               ("house", LOOSE, 1), ("house", CLEAN, 1), ("dirty", CLEAN, 3), ("dirty", RULE, 3)):
            with Unchanged(self, book):
                check(self, Broken, "index", at, book.__setitem__, name, part)
        # Behind a claim that is taken away, the others have other indexes.
        book.lift(0)
        book["week"] = DIRTY
        check(self, Broken, "index", 3, book.__setitem__, "week", without)
        check(self, Broken, "index", 0, book.__setitem__, "house", LOOSE)
        book.lift(0)
        check(self, Broken, "index", 0, book.__setitem__, "house", LOOSE)
        book.lift(0)
        book["house"] = LOOSE
        check(self, Broken, "index", 0, book.__setitem__, "dirty", RULE)

    def test_a_part_with_which_all_still_hold(self):
        book = filled()
        more = Plan(SMALL, (("clean", "mixer", "rinse"),) + CLEAN.deeds + (("run", "bar", ("mixer",)),))
        book["week"] = more
        book["house"] = RULE.changed("bar", "bar", "rinse")
        self.assertIs(book["week"], more)
        self.assertEqual(book.claims, CLAIMS)

    def test_against_what_is_told(self):
        dice = random.Random(1)
        for _ in range(40):
            plan = some_plan(dice, 2, 2, 3, 2)
            rule = Rule(plan.works, "ma", tuple(
                (one[0], two[0], dice.choice(("-", "ca", "cb"))) for one in plan.works.products[:3]
                for two in plan.works.products[:3] if dice.random() < 0.6))
            book = Book(plan.works)
            book["plan"], book["rule"] = plan, rule
            for stuff, _ in plan.works.stuffs:
                for lot in range(3):
                    top, bottom = greatest(plan, lot, stuff)
                    for number in (top // bottom, -(-top // bottom), max(0, top // bottom - 1)):
                        claim = ("at most", "plan", lot, stuff, number)
                        (self.holds if top <= number * bottom else self.broken)(book, claim)
                    top, bottom = least(plan, lot, stuff)
                    for number in (top // bottom, -(-top // bottom), top // bottom + 1):
                        claim = ("at least", "plan", lot, stuff, number)
                        (self.holds if top >= number * bottom else self.broken)(book, claim)
                for product in ("pa", "pb", "pc", "pd"):
                    amount = lot_ever(rule, product, stuff)
                    top, bottom = amount or (10 ** 14, 1)
                    for number in {min(10 ** 13, one) for one in (top // bottom, -(-top // bottom))}:
                        claim = ("ever", "rule", product, stuff, number)
                        (self.holds if top <= number * bottom else self.broken)(book, claim)
            (self.broken if first_above(rule) else self.holds)(book, ("keeps", "rule"))


class Undo(unittest.TestCase):
    def test_each_change(self):
        book = Book(SMALL)
        steps = (lambda: book.__setitem__("week", CLEAN), lambda: book.__setitem__("week", DIRTY),
                 lambda: book.__setitem__("week", DIRTY), lambda: book.__setitem__("house", RULE),
                 lambda: book.claim(("keeps", "house")), lambda: book.claim(("keeps", "house")), lambda: book.lift(0),
                 lambda: book.lift(0), lambda: book.drop("house"), lambda: book.drop("week"))
        seen = [state(book)]
        for many, step in enumerate(steps):
            self.assertEqual(book.changes, many)
            step()
            seen.append(state(book))
        while book.changes:
            self.assertEqual(state(book), seen.pop())
            book.undo()
        self.assertEqual([state(book)], seen)
        self.assertRaises(NothingToUndo, book.undo)

    def test_what_left_all_as_it_was(self):
        book = filled()
        book["week"] = CLEAN
        book["week"] = CLEAN
        self.assertEqual(book.changes, 9)
        book.undo()
        self.assertEqual((book.changes, book["week"]), (8, CLEAN))

    def test_refused_calls_are_no_changes(self):
        book = filled()
        for call in (lambda: book.drop("week"), lambda: book.claim(("keeps", "week")), lambda: book.lift(9),
                     lambda: book.claim(None), lambda: book.__setitem__("week", RULE), lambda: book.drop("none"),
                     lambda: book.__setitem__("week", None), lambda: book.__setitem__("Week", CLEAN),
                     lambda: book.do_all(("lift", 0), ("lift", 9)), lambda: book["none"]):
            self.assertRaises(Exception, call)
            self.assertEqual(book.changes, 7)
        book.undo()
        self.assertEqual(book.claims, CLAIMS[:3])

    def test_nothing_to_undo(self):
        book = Book(SMALL)
        with self.assertRaises(NothingToUndo) as caught:
            book.undo()
        self.assertIs(caught.exception.__class__, NothingToUndo)
        book["week"] = CLEAN
        book.undo()
        self.assertRaises(NothingToUndo, book.undo)
        self.assertEqual((book.changes, len(book)), (0, 0))

    def test_behind_what_was_taken_back(self):
        book = Book(SMALL)
        book["week"] = CLEAN
        book["week"] = DIRTY
        book.undo()
        book["house"] = RULE
        self.assertEqual((book["week"], book.names, book.changes), (CLEAN, ("house", "week"), 2))
        book.undo()
        book.undo()
        self.assertEqual(book.names, ())


class DoAll(unittest.TestCase):
    def test_none_and_several(self):
        book = Book(SMALL)
        self.assertEqual((book.do_all(), book.changes), (0, 0))
        self.assertEqual(book.do_all(("put", "week", CLEAN), ("put", "week", DIRTY), ("put", "house", RULE),
                                     ("claim", ("keeps", "house")), ("lift", 0), ("drop", "house")), 6)
        self.assertEqual((book.names, book["week"], book.claims, book.changes), (("week",), DIRTY, (), 6))

    def test_they_can_be_taken_back_one_by_one(self):
        book, other = filled(), filled()
        deeds = (("put", "more", RULE), ("claim", ("keeps", "more")), ("lift", 1), ("lift", 1), ("drop", "house"))
        seen = [state(other)]
        for deed in deeds:
            other.do_all(deed)
            seen.append(state(other))
        self.assertEqual(book.do_all(*deeds), 5)
        for told in seen[::-1]:
            self.assertEqual(state(book), told)
            book.undo()

    def test_invalid_deeds(self):
        book = filled()
        right = ("put", "more", CLEAN)
        for value in OTHERS + (0, "lift 0", ["lift", 0], ("lift",), ("lift", 0, 0), ("drop",), ("drop", "week", "week"),
                               ("put",), ("put", "more"), ("put", "more", CLEAN, None), ("claim",),
                               ("claim",) + CLAIMS[0], ("undo",), ("undo", 0), ("Put", "more", CLEAN), ("set", "more", CLEAN),
                               (b"lift", 0), (Always(), 0), (Always(), "more", CLEAN), (("lift",), 0), (["lift"], 0),
                               (True, 0), (None, "more", CLEAN), right + (right,), (right,), CLAIMS[0], ("keeps", "house")):
            seen = []
            with Unchanged(self, book):
                check(self, InvalidDeeds, "index", 0, book.do_all, value, watch=seen.append)
                check(self, InvalidDeeds, "index", 0, book.do_all, value, value)
                check(self, InvalidDeeds, "index", 1, book.do_all, right, value, watch=seen.append)
                check(self, InvalidDeeds, "index", 2, book.do_all, ("lift", 0), ("drop", "none"), value, right)
            self.assertEqual(seen, [])

    def test_the_error_of_the_first_that_fails(self):
        book = filled()
        right = ("put", "more", CLEAN)
        for deed, error, attribute, given in (
            (("put", "More", CLEAN), InvalidName, "given", "More"), (("put", "week", SMALL), NotAPart, "given", SMALL),
            (("put", "week", DIRTY), Broken, "index", 0), (("drop", "none"), UnknownName, "given", "none"),
            (("drop", "dirty"), InUse, "index", 3), (("claim", SMALL), InvalidClaim, "given", SMALL),
            (("claim", ("keeps", "week")), Broken, "index", 4), (("lift", 4), InvalidIndex, "given", 4),
        ):
            for deeds in ((deed,), (right, deed), (right, ("drop", "more"), deed, ("lift", 9)),
                          (right, deed, ("put", "More", None))):
                with Unchanged(self, book):
                    check(self, error, attribute, given, book.do_all, *deeds)

    def test_as_the_book_is_behind_the_deeds_before(self):
        book = filled()
        with Unchanged(self, book):
            check(self, Broken, "index", 0, book.do_all, ("lift", 0), ("put", "house", LOOSE))
            check(self, InUse, "index", 2, book.do_all, ("lift", 0), ("drop", "dirty"))
            check(self, Broken, "index", 3, book.do_all, ("lift", 0), ("claim", ("keeps", "week")))
            check(self, InvalidIndex, "given", 3, book.do_all, ("lift", 0), ("lift", 3))
        book.do_all(("lift", 0), ("drop", "week"), ("put", "week", RULE), ("claim", ("keeps", "week")))
        self.assertEqual(book.claims, CLAIMS[1:] + (("keeps", "week"),))

    def test_watch(self):
        book = filled()
        seen = []

        def watch(passed):
            self.assertIs(passed, book)
            seen.append((passed.names, passed.claims, passed.changes))

        self.assertEqual(book.do_all(watch=watch), 0)
        self.assertEqual(seen, [])
        self.assertEqual(book.do_all(("put", "more", CLEAN), ("lift", 0), ("drop", "week"), watch=watch), 3)
        self.assertEqual(seen, [(("dirty", "house", "more", "week"), CLAIMS, 8),
                                (("dirty", "house", "more", "week"), CLAIMS[1:], 9),
                                (("dirty", "house", "more"), CLAIMS[1:], 10)])

    def test_watch_behind_what_fails(self):
        book = filled()
        seen = []
        with Unchanged(self, book):
            check(self, UnknownName, "given", "none", book.do_all, ("put", "more", CLEAN), ("drop", "none"), ("lift", 0),
                  watch=lambda passed: seen.append(passed.changes))
        self.assertEqual(seen, [8])

    def test_an_error_of_watch(self):
        book = filled()
        for error in (Stop("x"), UnknownName("x"), Broken(7), NothingToUndo(), KeyError("x"), StopIteration(),
                      KeyboardInterrupt(), GeneratorExit(), ZeroDivisionError()):
            for last in (8, 9):
                def watch(passed):
                    if passed.changes == last:
                        raise error

                with Unchanged(self, book):
                    with self.assertRaises(type(error)) as caught:
                        book.do_all(("put", "more", CLEAN), ("lift", 0), watch=watch)
                    self.assertIs(caught.exception, error)

    def test_watch_may_try_things(self):
        book = filled()

        def watch(passed):
            with passed.trial() as again:
                while again.changes:
                    again.undo()

        self.assertEqual(book.do_all(("put", "more", CLEAN), ("lift", 0), watch=watch), 2)
        self.assertEqual((book.names, book.claims, book.changes), (("dirty", "house", "more", "week"), CLAIMS[1:], 9))


class Trials(unittest.TestCase):
    def test_as_gives_the_book(self):
        book = filled()
        with book.trial() as passed:
            self.assertIs(passed, book)
        for call in (lambda passed: passed, lambda passed: None, len):
            told = book.tried(call)
            self.assertTrue(told is book or told is None or told == 3)

    def change_much(self, book):
        """Changes of all kinds to a filled book, and more taken back than was done here."""
        book["more"] = LOOSE
        book.lift(0)
        book.undo()
        book.do_all(("lift", 3), ("lift", 0), ("drop", "week"), ("drop", "dirty"), ("put", "week", RULE))
        for _ in range(9):
            book.undo()
        book["other"] = CLEAN
        book.claim(("at most", "other", 1, "nuts", 18))

    def test_the_book_is_as_before(self):
        for book in (filled(), Book(SMALL)):
            before = state(book)
            with book.trial():
                if book:
                    self.change_much(book)
                book["a"] = CLEAN
                self.assertNotEqual(state(book), before)
            self.assertEqual(state(book), before)

    def test_what_was_taken_back_within(self):
        book = filled()
        with Unchanged(self, book):
            with book.trial():
                while book.changes:
                    book.undo()
                self.assertRaises(NothingToUndo, book.undo)

    def test_an_exception_is_passed_on(self):
        book = filled()
        for error in (Stop("x"), UnknownName("x"), Broken(0), NothingToUndo(), StopIteration(), KeyboardInterrupt(),
                      GeneratorExit(), ZeroDivisionError(), LookupError()):
            with Unchanged(self, book):
                with self.assertRaises(type(error)) as caught:
                    with book.trial():
                        self.change_much(book)
                        raise error
                self.assertIs(caught.exception, error)

                def action(passed):
                    self.change_much(passed)
                    raise error

                with self.assertRaises(type(error)) as caught:
                    book.tried(action)
                self.assertIs(caught.exception, error)

    def test_in_whatever_way_they_end(self):
        book = filled()

        def returns():
            with book.trial():
                self.change_much(book)
                return book.names

        with Unchanged(self, book):
            self.assertEqual(returns(), ("dirty", "house", "other", "week"))
            for _ in range(3):
                with book.trial():
                    self.change_much(book)
                    continue
            for _ in range(3):
                with book.trial():
                    self.change_much(book)
                    break

            def yields():
                with book.trial():
                    self.change_much(book)
                    yield 1
                    yield 2

            for _ in yields():
                break
            going = yields()
            next(going)
            going.close()

    def test_one_trial_several_times(self):
        book = filled()
        trial = book.trial()
        for name in ("a", "b", "c"):
            with Unchanged(self, book):
                with trial as passed:
                    self.assertIs(passed, book)
                    book[name] = CLEAN
                    self.change_much(book)
            book[name] = CLEAN
            self.assertIn(name, book)
        self.assertEqual(book.names, ("a", "b", "c", "dirty", "house", "week"))

    def test_as_it_was_when_the_rows_began(self):
        """Not as it was when the trial was made."""
        book = Book(SMALL)
        trial = book.trial()
        book["week"] = CLEAN
        with trial:
            book.undo()
        self.assertEqual((book.names, book.changes), (("week",), 1))

    def test_within_itself(self):
        book = filled()
        trial = book.trial()
        with Unchanged(self, book):
            with trial:
                book["a"] = CLEAN
                first = state(book)
                with trial:
                    book["b"] = CLEAN
                    second = state(book)
                    with trial as passed:
                        self.assertIs(passed, book)
                        self.change_much(book)
                    self.assertEqual(state(book), second)
                    self.assertRaises(Stop, self.within, book, trial)
                    self.assertEqual(state(book), second)
                self.assertEqual(state(book), first)
                with trial:
                    book.undo()
                self.assertEqual(state(book), first)

    def test_within_itself_left_by_an_exception(self):
        """One exception leaves all the rows, one around another; in each the book is as it was when they began."""
        for error in (Stop("x"), Broken(0), KeyboardInterrupt(), GeneratorExit()):
            book = filled()
            trial = book.trial()
            with Unchanged(self, book):
                with self.assertRaises(type(error)) as caught:
                    self.deeper(book, trial, ["a", "b", "c", "d"], error)
                self.assertIs(caught.exception, error)
            with Unchanged(self, book):
                with trial as passed:
                    self.assertIs(passed, book)
                    self.change_much(book)

    def deeper(self, book, trial, names, error):
        """Enter the trial once more for each of the names, with a change between, and raise the error within them."""
        with trial:
            book[names[0]] = CLEAN
            if not names[1:]:
                self.change_much(book)
                raise error
            between = state(book)
            try:
                self.deeper(book, trial, names[1:], error)
            finally:
                self.assertEqual(state(book), between)

    def test_an_exception_caught_within_itself(self):
        """Only the rows that it leaves end: those around them go on, and end where they began."""
        book = filled()
        trial = book.trial()
        with Unchanged(self, book):
            with trial:
                book.undo()
                between = state(book)
                for _ in range(2):
                    with self.assertRaises(Stop):
                        with trial:
                            book.lift(0)
                            with trial:
                                book.undo()
                                book.undo()
                                book["a"] = LOOSE
                                raise Stop()
                    self.assertEqual(state(book), between)
                book["b"] = RULE
                self.assertEqual(book.names, ("b", "dirty", "house", "week"))

    def within(self, book, trial):
        with trial, trial, trial:
            self.change_much(book)
            raise Stop()

    def test_trials_within_trials(self):
        book = filled()
        with Unchanged(self, book):
            with book.trial():
                book["a"] = CLEAN
                first = state(book)
                with book.trial():
                    self.change_much(book)
                    names = book.names
                    self.assertEqual(book.tried(lambda passed: passed.tried(self.longer)), ("b", "c") + names)
                    self.assertEqual(book.names, names)
                self.assertEqual(state(book), first)

    def longer(self, book):
        book.do_all(("put", "b", CLEAN), ("put", "c", RULE))
        return book.names

    def test_trials_of_several_books(self):
        one, two = filled(), Book(SMALL)
        with Unchanged(self, one, two):
            with one.trial(), two.trial():
                self.change_much(one)
                two["a"] = CLEAN
                with one.trial():
                    one["b"] = CLEAN
                    two["c"] = CLEAN
                self.assertEqual((one.names, two.names), (("dirty", "house", "other", "week"), ("a", "c")))

    def test_do_all_within_one(self):
        book = filled()
        with Unchanged(self, book):
            with book.trial():
                self.assertEqual(book.do_all(("put", "a", CLEAN), ("lift", 0)), 2)
                between = state(book)
                self.assertRaises(Broken, book.do_all, ("lift", 0), ("put", "dirty", CLEAN))
                self.assertEqual(state(book), between)

    def test_tried_returns_what_the_action_returns(self):
        book = filled()
        for value in (None, 0, "x", (1, 2), [], book, CLEAN):
            self.assertIs(book.tried(lambda passed: value), value)
        self.assertEqual(book.tried(lambda passed: passed["week"].lots), ("bar", "cake"))

    def test_a_trial_equals_itself_alone(self):
        book = filled()
        trial = book.trial()
        self.assertIs(trial == trial, True)
        self.assertIs(trial != trial, False)
        self.assertTrue(trial)
        for value in OTHERS + (book.trial(), Book(SMALL).trial(), book, 0):
            self.assertIs(trial == value, False)
            self.assertIs(trial != value, True)
        with trial:
            self.assertIs(trial == trial, True)


class AgainstAModel(unittest.TestCase):
    """Changes of all kinds in any order, against what the document says, told by lists of all that was there."""

    def holds(self, parts, claim):
        part = parts.get(claim[1])
        if claim[0] == "keeps":
            return isinstance(part, Rule) and first_above(part) is None
        if claim[0] == "ever":
            amount = lot_ever(part, *claim[2:4]) if isinstance(part, Rule) else None
            return amount is not None and amount[0] <= claim[4] * amount[1]
        if not isinstance(part, Plan) or claim[2] >= len(part):
            return False
        top, bottom = (greatest if claim[0] == "at most" else least)(part, *claim[2:4])
        return top <= claim[4] * bottom if claim[0] == "at most" else top >= claim[4] * bottom

    def change(self, parts, claims, deed):
        """What a deed leads to, or the class and the index of its error."""
        word, what, *rest = deed
        parts, claims = dict(parts), list(claims)
        if word == "put":
            parts[what] = rest[0]
        elif word == "drop":
            used = [at for at, claim in enumerate(claims) if claim[1] == what]
            if what not in parts or used:
                return (UnknownName, None) if what not in parts else (InUse, used[0])
            del parts[what]
        elif word == "claim":
            claims.append(what)
        elif what >= len(claims):
            return InvalidIndex, None
        else:
            del claims[what]
        broken = [at for at, claim in enumerate(claims) if not self.holds(parts, claim)]
        return (Broken, broken[0]) if broken else (parts, claims)

    def some_deed(self, dice):
        name = dice.choice("abc")
        kind = dice.choice(("put", "put", "drop", "claim", "claim", "claim", "lift"))
        if kind == "put":
            return kind, name, dice.choice((CLEAN, DIRTY, RULE, LOOSE, Plan(SMALL, ())))
        if kind == "lift":
            return kind, dice.randrange(4)
        if kind == "drop":
            return kind, name
        return kind, dice.choice((
            ("keeps", name), ("ever", name, "cake", "nuts", dice.choice((22, 23, 300))),
            ("at most", name, dice.randrange(2), "nuts", dice.choice((17, 18, 180, 900))),
            ("at least", name, dice.randrange(2), "nuts", dice.choice((0, 80, 81, 800)))))

    def seen(self, book):
        return {name: book[name] for name in book.names}, list(book.claims), book.changes

    def test_rows_of_changes(self):
        counts = {}
        for seed in range(25):
            dice = random.Random(seed)
            book, past = Book(SMALL), [({}, [])]
            for _ in range(60):
                if dice.random() < 0.15:
                    if len(past) > 1:
                        past.pop()
                        book.undo()
                    else:
                        self.assertRaises(NothingToUndo, book.undo)
                else:
                    deeds = [self.some_deed(dice) for _ in range(dice.choice((1, 1, 1, 2, 3)))]
                    self.do(book, past, deeds, counts)
                parts, claims = past[-1]
                self.assertEqual(self.seen(book), (parts, claims, len(past) - 1))
            while len(past) > 1:
                past.pop()
                book.undo()
                self.assertEqual(self.seen(book), (*past[-1], len(past) - 1))
        self.assertTrue(all(counts.get(error, 0) > 20 for error in (UnknownName, InUse, InvalidIndex, Broken, "done")))

    def do(self, book, past, deeds, counts):
        """Do the deeds to both, alike."""
        reached = list(past)
        for deed in deeds:
            first, second = self.change(*reached[-1], deed)
            if isinstance(first, type):
                counts[first] = counts.get(first, 0) + 1
                with self.assertRaises(first) as caught:
                    book.do_all(*deeds)
                self.assertEqual(getattr(caught.exception, "index", None), second)
                return
            reached.append((first, second))
        counts["done"] = counts.get("done", 0) + 1
        self.assertEqual(book.do_all(*deeds), len(deeds))
        past[:] = reached


class TheGreatest(unittest.TestCase):
    def test_plans_and_rules(self):
        plan = greatest_plan(2)
        book = Book(plan.works)
        book["plan"] = plan
        for lot in range(8):
            top, bottom = greatest(plan, lot, "nuts")
            book.claim(("at most", "plan", lot, "nuts", -(-top // bottom)))
            check(self, Broken, "index", lot + 1, book.claim, ("at most", "plan", lot, "nuts", top // bottom - 1))
        rule = greatest_rule(2)
        book = Book(rule.works)
        book["rule"] = rule
        for product, _ in rule.works.products:
            top, bottom = lot_ever(rule, product, "sa")
            if top <= 10 ** 13 * bottom:
                book.claim(("ever", "rule", product, "sa", -(-top // bottom)))
        self.assertEqual(ever(rule, "pa", "sa"), ever(book["rule"], "pa", "sa"))

    def test_many_names_and_claims(self):
        book = Book(SMALL)
        letters = "abcdefghijklmnopqrst"
        for one in letters:
            for two in letters:
                book[one + two] = CLEAN
        for one in letters:
            book.claim(("at most", one + one, 1, "nuts", 18))
        self.assertEqual((len(book), book.names[:2], book.names[-1], book.changes), (400, ("aa", "ab"), "tt", 420))
        check(self, Broken, "index", 19, book.__setitem__, "tt", DIRTY)
        for _ in range(420):
            book.undo()
        self.assertEqual((len(book), book.claims), (0, ()))

    def test_many_changes(self):
        book = Book(SMALL)
        for _ in range(20000):
            book["week"] = CLEAN
        self.assertEqual(book.tried(lambda passed: [passed.undo() for _ in range(20000)] and passed.changes), 0)
        self.assertEqual(book.changes, 20000)

    def test_rules_of_several_products(self):
        dice = random.Random(4)
        for _ in range(20):
            rule = some_rule(dice, 4)
            book = Book(rule.works)
            book["rule"] = rule
            if first_above(rule) is None:
                book.claim(("keeps", "rule"))
                for first, second, _ in rule.table:
                    other = rule.changed(first, second, "-")
                    if first_above(other) is None:
                        book["rule"] = other
                        book.undo()
                    else:
                        check(self, Broken, "index", 0, book.__setitem__, "rule", other)
                    self.assertIs(book["rule"], rule)


if __name__ == "__main__":
    unittest.main()
