import itertools
import random
import re
import unittest

from featureunion.errors import BadText
from featureunion.formulas import is_formula
from featureunion.libraries import is_library
from featureunion.texts import read_formula, read_library, show_formula, show_library
from support import (
    A, ABC, ALWAYS, B, C, EIGHT, NEVER, STD, TWELVE_ITEMS, builtin_things, chain_down, chain_up, deep_things,
    features_in, formula_by_rules, libraries_of_all_sizes, library_by_rules, other_things, random_formula, ring,
    small_libraries, without_implied, wrapped,
)

STD_TEXT = """feature alloc
feature nostd
feature std alloc
item lock
2 std
1 alloc
item panic
1 not(std)
item vec
1 alloc"""
SIGNS = "(), \nabnotz0A-"
FORMULAS = (
    A, ALWAYS, NEVER, ("not", A), ("all", A), ("any", A, B), ("all", ("not", B), ("any",)),
    ("any", ("feature", "not"), ("feature", "all"), ("feature", "any")), ("not", ("all", ("any", C), ALWAYS)),
    ("not", ("feature", "not")), ("all", ("feature", "abcdefgh"), A))


def changed_texts(text):
    """All texts that differ by one sign: left out, twice, exchanged with the next one, put in or replaced."""
    for at in range(len(text)):
        yield text[:at] + text[at + 1:]
        yield text[:at] + text[at] + text[at:]
        yield text[:at] + text[at:at + 2][::-1] + text[at + 2:]
        for sign in SIGNS:
            yield text[:at] + sign + text[at + 1:]
    for at, sign in itertools.product(range(len(text) + 1), SIGNS):
        yield text[:at] + sign + text[at:]


def changed_at_random(source, text):
    """A text that differs by one sign."""
    at = source.randrange(len(text) + 1)
    sign = source.choice(SIGNS)
    return source.choice((
        text[:at] + text[at + 1:], text[:at] + text[at:at + 1] + text[at:], text[:at] + sign + text[at:],
        text[:at] + text[at:at + 2][::-1] + text[at + 2:], text[:at] + sign + text[at + 1:]))


def largest_formulas():
    """Formulas ten deep, and of 400 formulas."""
    names = [("feature", name) for name in ("a", "b", "c", "abcdefgh")]
    wide = [names[at % 4] for at in range(399)]
    return [
        wrapped(A, 9, lambda inner: ("not", inner)), wrapped(ALWAYS, 9, lambda inner: ("any", inner)),
        wrapped(NEVER, 9, lambda inner: ("all", B, inner, C)), ("all", *wide), ("any", *wide),
        wrapped(("any", *wide[:391]), 8, lambda inner: ("not", inner)),
        wrapped(("all", *wide[:79]), 8, lambda inner: ("any", *wide[:19], inner, *([ALWAYS, NEVER] * 10)))]


def random_formulas(many, seed):
    source = random.Random(seed)
    names = ("a", "b", "all", "any", "not", "feature", "abcdefgh")
    made = [random_formula(source, names, 1 + at % 7) for at in range(many)]
    return [formula for formula in made if is_formula(formula)]


class Checks(unittest.TestCase):
    def refused(self, function, text, value):
        with self.subTest(text=text):
            with self.assertRaises(BadText) as context:
                function(text)
            self.assertEqual(context.exception.value, value)
            self.assertIs(type(context.exception.value), type(value))

    def check_formula(self, text):
        """Compare what is read with what the rules of the document say."""
        answer = formula_by_rules(text)
        if answer is None:
            self.refused(read_formula, text, text)
        else:
            self.assertEqual(read_formula(text), answer)
        return answer is not None

    def check_library(self, text):
        answer = library_by_rules(text)
        if isinstance(answer, int):
            self.refused(read_library, text, answer)
        else:
            with self.subTest(text=text):
                self.assertEqual(read_library(text), answer)
        return answer


class Examples(unittest.TestCase):
    def test_point_24(self):
        manifest = (('alloc', ()), ('nostd', ()), ('std', ('alloc',)))
        std, alloc = ('feature', 'std'), ('feature', 'alloc')
        library = (manifest, (
            ('lock', ((std, 2), (alloc, 1))), ('panic', ((('not', std), 1),)), ('vec', ((alloc, 1),))))
        self.assertEqual(
            (show_library(library).split('\n')[2:5], read_formula('all(a, not(any()))')),
            (['feature std alloc', 'item lock', '2 std'], ('all', ('feature', 'a'), ('not', ('any',)))))


class ShowFormula(unittest.TestCase):
    def test_texts(self):
        for formula, text in (
                (A, "a"), (("feature", "abcdefgh"), "abcdefgh"), (("not", A), "not(a)"), (ALWAYS, "all()"),
                (NEVER, "any()"), (("all", A), "all(a)"), (("any", A, B), "any(a, b)"),
                (("all", A, B, A), "all(a, b, a)"),
                (("feature", "not"), "not"), (("feature", "all"), "all"), (("feature", "any"), "any"),
                (("not", ("feature", "not")), "not(not)"), (("any", ("feature", "any"), NEVER), "any(any, any())"),
                (("not", ("any", ("all", A, ("not", B)), C, ALWAYS)), "not(any(all(a, not(b)), c, all()))")):
            with self.subTest(formula=formula):
                self.assertEqual(show_formula(formula), text)
                self.assertEqual(read_formula(text), formula)

    def test_somewhat_beyond_the_limits_no_error_is_raised(self):
        deep = wrapped(A, 14, lambda inner: ("not", inner))
        self.assertEqual(show_formula(deep), "not(" * 14 + "a" + ")" * 14)
        self.assertEqual(show_formula(("all", *(A,) * 450)), "all(" + ", ".join("a" * 450) + ")")
        self.assertEqual(show_formula(("feature", "abcdefghijk")), "abcdefghijk")


class ReadFormula(Checks):
    def test_what_is_written_is_read_back(self):
        for formula in list(FORMULAS) + largest_formulas() + random_formulas(500, 1):
            with self.subTest(formula=formula):
                self.assertIs(is_formula(formula), True)
                self.assertEqual(read_formula(show_formula(formula)), formula)

    def test_kinds_of_values(self):
        formula = read_formula("any(a, not(b), all())")
        self.assertEqual({type(part) for part in (formula, *formula[1:])}, {tuple})
        self.assertEqual({type(word) for word in ("a", formula[0], formula[1][1])}, {str})

    def test_limits(self):
        for deep in range(1, 14):
            for text in ("not(" * (deep - 1) + "a" + ")" * (deep - 1), "all(" * deep + ")" * deep,
                         "any(a, " * (deep - 1) + "b" + ")" * (deep - 1)):
                self.assertIs(self.check_formula(text), deep <= 10)
        for many in (398, 399, 400, 401, 800):
            for word in ("all", "any"):
                text = f"{word}({', '.join(['a'] * many)})"
                self.assertIs(self.check_formula(text), many <= 399)
                text = f"not({word}({', '.join(['any()'] * many)}))"
                self.assertIs(self.check_formula(text), many <= 398)
        for size in range(12):
            self.assertIs(self.check_formula("abcdefghijkl"[:size]), 1 <= size <= 8)
            self.assertIs(self.check_formula(f"all(b, {'zzzzzzzzzzzz'[:size]})"), 1 <= size <= 8)

    def test_very_deep_and_very_long_texts(self):
        for many in (400, 1000, 5000, 100000):
            for text in ("not(" * many + "a" + ")" * many, "(" * many, ")" * many, "all(" * many, "a" * many,
                         "()" * many, "all()" * many, ", " * many, "all(" + "a, " * many + "a)"):
                with self.assertRaises(BadText) as context:
                    read_formula(text)
                self.assertIs(context.exception.value, text)

    def test_features_named_like_the_words(self):
        for name in ("not", "all", "any", "feature", "item"):
            self.assertEqual(read_formula(name), ("feature", name))
            self.assertEqual(read_formula(f"not({name})"), ("not", ("feature", name)))
            self.assertEqual(read_formula(f"all({name}, any({name}))"), (
                "all", ("feature", name), ("any", ("feature", name))))

    def test_texts_of_nothing(self):
        self.assertEqual(read_formula("nota"), ("feature", "nota"))
        for text in ("", " ", "()", "(", ")", ",", "(a)", "a()", "a(b)", "feature(a)", "feature a", "feature(feature)",
                     "not()", "not(a, b)", "not(a,)", "not(a)(b)", "not (a)", "not a", "not(a", "nota)",
                     "all(a,b)", "all(a ,b)", "all(a , b)", "all(a,  b)", "all(a b)", "all( a)", "all(a )", "all(,)",
                     "all(, )", "all(a, )", "all(, a)", "all(a,, b)", "all(a, , b)", "all()()", "all(a)b", "ball()",
                     "all(a)) ", "all((a))", "all(a()", "all(a))", "((a))", "All(a)", "ALL()", "A", "aB", "a1", "1",
                     "0 a", "a b", "a, b", "a,b", " a", "a ", "\na", "a\n", "a\tb", "all(a,\nb)", "all(\n)", "all( )",
                     "xor(a, b)", "or(a)", "if(a)", "a-b", "a_b", "\u00e9", "\u0430", "all(\uff41)", "any(a; b)",
                     "not[a]", "all{}", "('feature', 'a')", "all(any(a, b)", "all(any(a, b)))", "any(not)()", "alll()",
                     "al()", "an(a)"):
            self.refused(read_formula, text, text)
            self.assertIsNone(formula_by_rules(text))

    def test_texts_with_one_other_sign(self):
        answered = []
        for formula in FORMULAS:
            for text in set(changed_texts(show_formula(formula))):
                answered.append(self.check_formula(text))
        self.assertGreater(answered.count(True), 100)
        self.assertGreater(answered.count(False), 1000)

    def test_texts_with_several_other_signs(self):
        source = random.Random(2)
        answered = []
        for formula in random_formulas(250, 3):
            text = show_formula(formula)
            for _ in range(10):
                other = text
                for _ in range(source.choice((1, 2, 2, 3))):
                    other = changed_at_random(source, other)
                answered.append(self.check_formula(other))
        self.assertGreater(answered.count(True), 100)
        self.assertGreater(answered.count(False), 1000)

    def test_all_short_texts(self):
        for size in range(6):
            for signs in itertools.product("(),a ", repeat=size):
                self.check_formula("".join(signs))
        for size in range(7):
            for words in itertools.product(("all", "not", "(", ")", ", ", "a"), repeat=size):
                if size < 6 or words[:2] in (("all", "("), ("not", "(")):
                    self.check_formula("".join(words))

    def test_of_anything(self):
        for thing in other_things() + deep_things(30) + [A, ("all",), ["a"], b"a", 1, None, ("a",), {"a": 1}]:
            if isinstance(thing, str):
                self.check_formula(thing)
                continue
            with self.subTest(thing=thing):
                with self.assertRaises(BadText) as context:
                    read_formula(thing)
                self.assertIs(context.exception.value, thing)


class ShowLibrary(unittest.TestCase):
    def test_texts(self):
        self.assertEqual(show_library(STD), STD_TEXT)
        self.assertEqual(show_library(((), ())), "")
        self.assertEqual(show_library(((("a", ()),), ())), "feature a")
        self.assertEqual(show_library(((), (("x", ((ALWAYS, 0), (NEVER, 99))),))), "item x\n0 all()\n99 any()")
        manifest = (("a", ("b", "c")), ("b", ()), ("c", ("a",)))
        self.assertEqual(show_library((manifest, ())), "feature a b c\nfeature b\nfeature c a")
        library = (manifest, (("item", ((("any", A, ("not", B)), 10),)), ("x", ((C, 7), (ALWAYS, 8)))))
        self.assertEqual(show_library(library), (
            "feature a b c\nfeature b\nfeature c a\nitem item\n10 any(a, not(b))\nitem x\n7 c\n8 all()"))

    def test_somewhat_beyond_the_limits_no_error_is_raised(self):
        library = (without_implied(EIGHT + ("i",)), (("abcdefghi", ((A, 100),) * 7),))
        self.assertEqual(show_library(library), "\n".join(
            ["feature " + name for name in EIGHT + ("i",)] + ["item abcdefghi"] + ["100 a"] * 7))


class ReadLibrary(Checks):
    def test_what_is_written_is_read_back(self):
        libraries = small_libraries()[::5] + libraries_of_all_sizes(4) + libraries_of_all_sizes(5)
        libraries += [(manifest, ()) for manifest in (ring(EIGHT), chain_up(EIGHT), chain_down(EIGHT))]
        manifest = (("a", ()), ("abcdefgh", ("zz",)), ("b", ("a", "c")), ("c", ()), ("zz", ("abcdefgh",)))
        libraries += [(manifest, (("x", ((formula, at), (NEVER, 99 - at))),))
                      for at, formula in enumerate(largest_formulas())]
        for library in libraries + [STD, ((), ())]:
            with self.subTest(library=library):
                self.assertIs(is_library(library), True)
                self.assertEqual(read_library(show_library(library)), library)

    def test_words_as_names(self):
        text = "feature all\nfeature any feature item\nfeature feature\nfeature item not\nfeature not\nitem all\n" \
               "1 not\n2 all(item, feature)\nitem feature\n3 any\nitem item\n4 not(not)"
        library = read_library(text)
        self.assertEqual(features_in(library[0]), ("all", "any", "feature", "item", "not"))
        self.assertEqual([item for item, _ in library[1]], ["all", "feature", "item"])
        self.assertEqual(library[1][0][1], (
            (("feature", "not"), 1), (("all", ("feature", "item"), ("feature", "feature")), 2)))
        self.assertEqual(show_library(library), text)

    def test_first_row_without_a_form(self):
        rows = STD_TEXT.split("\n")
        bad = ("", " ", "feature", "feature ", "feature A", "feature abcdefghi", "feature a  b", "feature a ",
               " feature a", "feature a b ", "feature a,b", "features a", "Feature a", "feature a1", "item", "item ",
               "item x y", "item abcdefghi", "item  x", "item x ", " item x", "item X", "items x", "x", "1",
               "1 ", "1  a", " 1 a", "1 a ", "01 a", "00 a", "100 a", "-1 a", "+1 a", "1.0 a", "a 1", "1 2", "1 a b",
               "1 all(a,b)", "1 all(a,  b)", "1 all(a, b", "1 abcdefghi", "1 not()", "1\ta", "1 a\r", "\u0661 a",
               "1_0 a", "\u00b2 a",
               "1 " + "not(" * 10 + "a" + ")" * 10, "1 all(" + ", ".join(["a"] * 400) + ")", "1 feature(a)", "none")
        for row in bad:
            for at in range(len(rows) + 1):
                self.refused(read_library, "\n".join(rows[:at] + [row] + rows[at:]), at)
            for at in range(len(rows)):
                self.refused(read_library, "\n".join(rows[:at] + [row] + rows[at + 1:]), at)
        for row, other in itertools.product(bad[::7], bad[1::5]):
            self.refused(read_library, "\n".join(rows[:3] + [row] + rows[3:6] + [other] + rows[6:]), 3)
        for row in bad[1:]:
            self.refused(read_library, row, 0)

    def test_rows_with_a_form_that_are_no_library(self):
        nine = "\n".join("feature " + name for name in EIGHT + ("i",))
        thirteen = "\n".join(f"item {name}\n1 all()" for name in TWELVE_ITEMS + ("zzzzzzzz",))
        self.assertEqual(read_library(nine[:-10]), (without_implied(EIGHT), ()))
        for text in (
                nine, "\n".join(f"item {name}\n1 all()" for name in "abcdefghijklm"), thirteen,
                "item x" + "\n1 all()" * 7, "item x", "item x\nitem y\n1 all()", "1 all()", "0 any()\nitem x\n1 all()",
                "feature a\nfeature a", "feature b\nfeature a", "feature a a", "feature a b", "feature a b\nfeature c",
                "feature a c b\nfeature b\nfeature c", "feature a b b\nfeature b", "feature a\nfeature b c",
                "item x\n1 a", "feature a\nitem x\n1 not(b)", "feature a\nitem x\n1 a\nfeature b",
                "item x\n1 all()\nfeature a", "item y\n1 all()\nitem x\n1 all()", "item x\n1 all()\nitem x\n1 all()",
                "feature a\n1 a\nitem x\n1 a", "feature abcdefgh hgfedcba a b c d e f g h i j k", "99 a",
                "feature a\n0 a"):
            self.refused(read_library, text, len(text.split("\n")))
            self.assertEqual(library_by_rules(text), len(text.split("\n")))

    def test_limits_that_are_kept(self):
        twelve = "\n".join(f"item {name}" + "\n1 all()" * 6 for name in TWELVE_ITEMS)
        self.assertEqual(len(read_library(twelve)[1]), 12)
        for version in range(130):
            text = f"item x\n{version} all()"
            if version < 100:
                self.assertEqual(read_library(text), ((), (("x", ((ALWAYS, version),)),)))
                self.assertIs(type(read_library(text)[1][0][1][0][1]), int)
                self.refused(read_library, f"item x\n0{version} all()", 1)
            else:
                self.refused(read_library, text, 1)

    def test_rows_left_out_twice_exchanged_and_put_in(self):
        source = random.Random(6)
        answered = []
        libraries = [library for library in small_libraries()[::40] + libraries_of_all_sizes(7) if library != ((), ())]
        more = ["feature a", "feature a b", "feature zz", "item x", "item zzzzzzzz", "1 all()", "0 a", "1 b", "x", "",
                "2  a", "feature b a a", "item x y", "100 a"]
        for library in libraries + [STD]:
            rows = show_library(library).split("\n")
            for at in source.sample(range(len(rows)), min(len(rows), 8)):
                other = source.randrange(len(rows))
                exchanged = list(rows)
                exchanged[at], exchanged[other] = exchanged[other], exchanged[at]
                another = [source.choice(more)]
                for changed in (rows[:at] + rows[at + 1:], rows[:at] + rows[at:at + 1] + rows[at:], exchanged,
                                rows[:at] + another + rows[at:], rows[:at] + another + rows[at + 1:],
                                rows[at:] + rows[:at]):
                    answered.append(type(self.check_library("\n".join(changed))))
        self.assertGreater(answered.count(tuple), 100)
        self.assertGreater(answered.count(int), 500)

    def test_texts_with_one_other_sign(self):
        answered = []
        for text in ("feature a\nfeature b a\nitem x\n1 not(b)\n20 all()", "item x\n99 all()",
                     "feature a b\nfeature b a"):
            for changed in set(changed_texts(text)):
                answered.append(type(self.check_library(changed)))
        self.assertGreater(answered.count(tuple), 20)
        self.assertGreater(answered.count(int), 500)

    def test_texts_with_several_other_signs(self):
        source = random.Random(8)
        kinds = set()
        for text in [STD_TEXT] * 20 + [show_library(library) for library in libraries_of_all_sizes(9)[:20]]:
            for _ in range(20):
                other = text
                for _ in range(source.choice((1, 1, 2))):
                    other = changed_at_random(source, other)
                kinds.add(type(self.check_library(other)))
        self.assertEqual(kinds, {tuple, int})

    def test_blank_lines_at_the_ends(self):
        self.refused(read_library, "\n", 0)
        self.refused(read_library, "\n\n", 0)
        self.refused(read_library, STD_TEXT + "\n", 10)
        self.refused(read_library, "\n" + STD_TEXT, 0)
        self.assertEqual(read_library(""), ((), ()))

    def test_other_line_ends_do_not_separate_rows(self):
        for end in ("\r", "\r\n", "\x0b", "\x0c", "\u2028", "\x85", "\x1c"):
            self.refused(read_library, f"feature a{end}feature b", 0)
            self.refused(read_library, f"feature a\nitem x\n1 a{end}", 2)

    def test_of_anything(self):
        for thing in other_things() + deep_things(30) + [STD, ((), ()), [""], b"", b"feature a", 1, None, [], ()]:
            if isinstance(thing, str):
                self.check_library(thing)
            else:
                with self.subTest(thing=thing):
                    with self.assertRaises(BadText) as context:
                        read_library(thing)
                    self.assertEqual(context.exception.value, 0)
                    self.assertIs(type(context.exception.value), int)


class GeneralRules(unittest.TestCase):
    def test_arguments_by_name(self):
        self.assertEqual(show_formula(formula=("not", A)), "not(a)")
        self.assertEqual(read_formula(text="not(a)"), ("not", A))
        self.assertEqual(show_library(library=STD), STD_TEXT)
        self.assertEqual(read_library(text=STD_TEXT), STD)
        for function in (read_formula, read_library):
            with self.assertRaises(BadText):
                function(text=None)

    def test_no_argument_is_changed(self):
        def made():
            return [thing for thing in builtin_things() if not isinstance(thing, str)] + [["feature a"], {"a": ["b"]}]

        things = made()
        for thing in things:
            self.assertRaises(BadText, read_formula, thing)
            self.assertRaises(BadText, read_library, thing)
        self.assertEqual(things, made())
        rows = iter(["feature a"])
        self.assertRaises(BadText, read_formula, rows)
        self.assertRaises(BadText, read_library, rows)
        self.assertEqual(list(rows), ["feature a"])

    def test_equal_calls_return_equal_results(self):
        given = libraries_of_all_sizes(10)
        first = [read_library(show_library(library)) for library in given]
        self.assertEqual([read_library(show_library(library)) for library in given], first)
        self.assertEqual(first, given)

    def test_the_rules_of_the_tests_know_the_texts(self):
        # So that a comparison with them is worth something.
        self.assertEqual(library_by_rules(STD_TEXT), STD)
        self.assertEqual(formula_by_rules("all(a, not(any()))"), ("all", A, ("not", NEVER)))
        self.assertIsNone(re.fullmatch("[a-z]+", "a\n"))


if __name__ == "__main__":
    unittest.main()
