import itertools
import random
import unittest

from featureunion.formulas import features_of, holds, is_formula, is_name, is_positive
from support import all_subsets, builtin_things, deep_things, other_things, random_formula, wrapped

A, B, C = ("feature", "a"), ("feature", "b"), ("feature", "c")
LEAVES = [A, ("feature", "abcdefgh"), ("all",), ("any",)]
# Features may be named as the words of formulas are.
WORDS = [("feature", word) for word in ("all", "any", "feature", "not")]


def negated(thing):
    return ("not", thing)


def negated_often(thing, times):
    return wrapped(thing, times, negated)


def mixed(thing, times):
    """A thing nested some times, in turn under not, all and any, with other parts before and behind."""
    wraps = [negated, lambda inner: ("all", A, inner), lambda inner: ("any", inner, B)]
    for at in range(times):
        thing = wraps[at % 3](thing)
    return thing


def count_of(formula):
    if formula[0] == "feature":
        return 1
    return 1 + sum(count_of(part) for part in formula[1:])


def depth_of(formula):
    if formula[0] == "feature":
        return 1
    return 1 + max((depth_of(part) for part in formula[1:]), default=0)


def names_in(formula):
    if formula[0] == "feature":
        return {formula[1]}
    return set().union(*(names_in(part) for part in formula[1:]))


def has_not(formula):
    if formula[0] == "feature":
        return False
    return formula[0] == "not" or any(has_not(part) for part in formula[1:])


def where_it_holds(formula, subsets):
    """The subsets for which a formula holds, by set operations on subsets."""
    if formula[0] == "feature":
        return {subset for subset in subsets if formula[1] in subset}
    parts = [where_it_holds(part, subsets) for part in formula[1:]]
    if formula[0] == "not":
        return set(subsets) - parts[0]
    if formula[0] == "all":
        return set(subsets).intersection(*parts)
    return set().union(*parts)


def small_formulas():
    """All formulas of at most three deep with few parts, over the features a and b."""
    leaves = [A, B, ("all",), ("any",)]
    middle = leaves + [negated(leaf) for leaf in leaves]
    middle += [(word, *parts) for word in ("all", "any") for size in (1, 2)
               for parts in itertools.product(leaves, repeat=size)]
    top = [negated(part) for part in middle]
    top += [(word, *parts) for word in ("all", "any") for parts in itertools.product(middle, leaves)]
    return middle + top


def random_formulas(names, many, seed):
    source = random.Random(seed)
    made = [random_formula(source, names, 1 + at % 6) for at in range(many)]
    return [formula for formula in made if count_of(formula) <= 400]


class Example(unittest.TestCase):
    def test_point_5(self):
        formula = ('any', ('not', ('feature', 'b')), ('feature', 'a'))
        self.assertEqual(
            (is_formula(formula), features_of(formula), holds(formula, ()), holds(formula, ('b',)),
             holds(('any',), ())),
            (True, ('a', 'b'), True, False, False))


class Names(unittest.TestCase):
    def check(self, thing, answer):
        with self.subTest(thing=thing):
            self.assertIs(is_name(thing), answer)

    def test_lengths(self):
        for size in range(20):
            self.check("a" * size, 1 <= size <= 8)
            self.check("zyxwvutsrqponmlkjihg"[:size], 1 <= size <= 8)
        self.check("a" * 1000, False)

    def test_each_letter(self):
        for letter in "abcdefghijklmnopqrstuvwxyz":
            self.check(letter, True)
            self.check("ab" + letter + "cd", True)
            self.check(letter.upper(), False)
            self.check("a" + letter.upper(), False)
            self.check(letter.upper() + "a", False)

    def test_every_other_character_anywhere(self):
        letters = "abcdefghijklmnopqrstuvwxyz"
        for character in [chr(code) for code in range(384) if chr(code) not in letters]:
            for text in (character, character + "a", "a" + character, "a" + character + "b",
                         "abcdefg" + character, character + "abcdefg"):
                self.check(text, False)

    def test_letters_that_are_not_from_a_to_z(self):
        for letter in "äéßñøıªºµа\u03b1\u0430\uff41\ufb01\u02b0\u24d0\U0001d41a\u0301\u200b\ud800":
            for text in (letter, letter + "a", "a" + letter):
                self.check(text, False)

    def test_digits_blanks_line_feeds(self):
        for text in ("a1", "1a", "1", " a", "a ", "a b", " ", "a\n", "\na", "\n", "a\nb", "a\t", "a_b", "_", "a-b",
                     "a,b", "a\r", "a\x00", "abcdefgh\n", "\u0661"):
            self.check(text, False)

    def test_words_of_formulas_are_names(self):
        for text in ("feature", "not", "all", "any"):
            self.check(text, True)

    def test_what_is_no_string(self):
        for thing in other_things() + [("a",), ["a"], {"a": "a"}, {"a"}, b"abc", ("a", "b"), A, ("feature",), ()]:
            self.check(thing, False)
        for thing in deep_things(30):
            self.check(thing, False)


class Formulas(unittest.TestCase):
    def check(self, thing, answer):
        with self.subTest(thing=thing):
            self.assertIs(is_formula(thing), answer)

    def test_each_kind(self):
        for leaf in LEAVES + WORDS:
            self.check(leaf, True)
            self.check(("not", leaf), True)
            for word in ("all", "any"):
                self.check((word, leaf), True)
                self.check((word, leaf, leaf), True)
                self.check((word, leaf, ("not", leaf), ("any", leaf, A, leaf)), True)

    def test_small_and_random_ones(self):
        for formula in small_formulas() + random_formulas(("a", "not", "all", "xyz"), 300, 1):
            self.check(formula, True)

    def test_not_with_another_number_of_parts(self):
        self.check(("not",), False)
        for first, second in itertools.product(LEAVES, repeat=2):
            self.check(("not", first, second), False)
            self.check(("all", ("not", first, second)), False)
        self.check(("not", A, B, C), False)
        self.check(("not", ("not",)), False)
        self.check(("any", A, ("not",)), False)

    def test_feature_with_something_else(self):
        for thing in other_things() + ["abcdefghi", "", "A", "a1", " a", "a\n", ("a",), A, ()]:
            self.check(("feature", thing), False)
            self.check(("not", ("feature", thing)), False)
        for thing in (("feature",), ("feature", "a", "b"), ("feature", "a", "a"), ("feature", "a", ()),
                      ("feature", "a", A), ("feature", "a", "b", "c")):
            self.check(thing, False)
            self.check(("all", A, thing), False)
            self.check(("any", thing, A), False)

    def test_unknown_first_word(self):
        for word in ("and", "or", "Not", "ALL", "Any", "Feature", "features", "none", "", " ", "a", "al", "allx",
                     "not ", " any", "any\n", b"any", b"feature", None, 1, True, (), ("all",), ["all"], A, {}):
            for thing in ((word,), (word, "a"), (word, A), (word, A, B)):
                self.check(thing, False)
                self.check(("not", thing), False)
                self.check(("all", A, thing), False)

    def test_empty_tuple(self):
        self.check((), False)
        for thing in (("not", ()), ("all", ()), ("any", ()), ("any", A, ()), ("all", (), A), ("not", ("all", ()))):
            self.check(thing, False)

    def test_names_and_tuples_in_the_place_of_parts(self):
        for thing in (("not", "a"), ("all", "a"), ("any", "a", "b"), ("all", A, "b"), ("all", (A, B)), ("any", (A,)),
                      ("all", ("a",)), "feature", "a", ("a",), ("a", "b"), (A,), (A, B), ("feature", ("feature", "a"))):
            self.check(thing, False)

    def test_list_in_the_place_of_a_tuple_at_any_depth(self):
        lists = [["feature", "a"], ["not", A], ["all"], ["any"], ["all", A], ["any", A, B], [], [A]]
        for thing in lists:
            self.check(thing, False)
            for times in range(1, 10):
                self.check(negated_often(thing, times), False)
                self.check(mixed(thing, times), False)
        self.check(("feature", ["a"]), False)
        self.check(("all", [A, B]), False)

    def test_anything(self):
        for thing in other_things():
            self.check(thing, False)
            for outer in (("not", thing), ("all", thing), ("any", A, thing), ("all", thing, A), (thing, A), (thing,)):
                self.check(outer, False)

    def test_anything_thirty_deep(self):
        for depth in range(11, 31):
            for thing in deep_things(depth):
                self.check(thing, False)

    def test_depth(self):
        for leaf in LEAVES:
            for times in range(30):
                self.check(negated_often(leaf, times), times + 1 <= 10)
                self.check(mixed(leaf, times), times + 1 <= 10)

    def test_depth_of_one_part_among_others(self):
        for leaf in LEAVES:
            for word in ("all", "any"):
                just = negated_often(leaf, 8)
                deeper = negated_often(leaf, 9)
                for parts in ((just, A), (A, just), (A, just, B), (just, just)):
                    self.check((word, *parts), True)
                for parts in ((deeper, A), (A, deeper), (A, deeper, B), (just, deeper), (deeper, just)):
                    self.check((word, *parts), False)

    def test_depth_by_wide_levels(self):
        formula = wrapped(("any",), 9, lambda inner: ("all", inner, A, B))
        self.assertEqual(depth_of(formula), 10)
        self.check(formula, True)
        self.check(("all", formula), False)

    def test_number_of_formulas_on_one_level(self):
        for word in ("all", "any"):
            for leaf in LEAVES:
                for many in (0, 1, 100, 398, 399, 400, 401, 500):
                    self.check((word,) + (leaf,) * many, many + 1 <= 400)

    def test_number_of_formulas_with_different_features(self):
        names = ["".join(letters) for letters in itertools.product("abcdefgh", repeat=3)]
        parts = tuple(("feature", name) for name in names)
        self.check(("all",) + parts[:399], True)
        self.check(("all",) + parts[:400], False)

    def test_number_of_formulas_on_several_levels(self):
        for word, other in (("all", "any"), ("any", "all")):
            inner = (other,) + (("not", A),) * 99
            for end in (A, ("all",), ("any",)):
                exact = (word, inner, inner, end)
                self.assertEqual(count_of(exact), 400)
                self.check(exact, True)
                self.check((word, inner, inner, end, end), False)
                self.check((word, inner, (other,) + (("not", A),) * 99 + (end,), end), False)
                self.check((word, end, inner, ("not", end), inner), False)

    def test_number_of_formulas_deep_inside(self):
        for many in (390, 391, 392, 393, 400):
            formula = negated_often(("any",) + (A,) * many, 8)
            self.assertEqual(count_of(formula), many + 9)
            self.check(formula, many + 9 <= 400)

    def test_many_formulas_and_many_levels(self):
        just = negated_often(("all", A), 8)
        self.assertEqual((count_of(just), depth_of(just)), (10, 10))
        self.check(("any",) + (just[1],) * 44 + (A,) * 3, True)
        self.check(("any",) + (just[1],) * 44 + (A,) * 4, False)


class Features(unittest.TestCase):
    def check(self, formula, answer):
        with self.subTest(formula=formula):
            found = features_of(formula)
            self.assertEqual(found, answer)
            self.assertIs(type(found), tuple)

    def test_none(self):
        for formula in (("all",), ("any",), ("not", ("all",)), ("all", ("any",), ("all",)), mixed(("any",), 0)):
            self.check(formula, ())

    def test_ascending_and_each_once(self):
        self.check(A, ("a",))
        self.check(("all", B, A), ("a", "b"))
        self.check(("any", A, A, A), ("a",))
        self.check(("all", C, ("not", A), ("any", B, C, ("all", A)), A), ("a", "b", "c"))
        self.check(("all", ("feature", "b"), ("feature", "ab"), ("feature", "a"), ("feature", "aa")),
                   ("a", "aa", "ab", "b"))
        self.check(("any",) + tuple(("feature", name) for name in "qazwsxedcrfv"), tuple(sorted("qazwsxedcrfv")))

    def test_named_as_the_words_are(self):
        for formula in WORDS:
            self.check(formula, (formula[1],))
            self.check(("not", formula), (formula[1],))
        self.check(("any", *WORDS[::-1]), ("all", "any", "feature", "not"))

    def test_deep_inside(self):
        self.check(negated_often(A, 9), ("a",))
        self.check(mixed(C, 9), ("a", "b", "c"))

    def test_largest(self):
        names = ["".join(letters) for letters in itertools.product("hgfedcba", repeat=3)][:399]
        self.check(("all",) + tuple(("feature", name) for name in names), tuple(sorted(names)))

    def test_small_and_random_ones(self):
        for formula in small_formulas() + random_formulas(("b", "a", "not", "all", "xyz"), 300, 2):
            self.check(formula, tuple(sorted(names_in(formula))))


class Holding(unittest.TestCase):
    def check(self, formula, features, answer):
        with self.subTest(formula=formula, features=features):
            self.assertIs(holds(formula, features), answer)

    def test_definitions(self):
        for features, answer in (((), False), (("a",), True), (("b",), False), (("a", "b"), True)):
            self.check(A, features, answer)
            self.check(("not", A), features, not answer)
            self.check(("not", ("not", A)), features, answer)
            self.check(("all", A), features, answer)
            self.check(("any", A), features, answer)
            self.check(("all",), features, True)
            self.check(("any",), features, False)
            self.check(("not", ("all",)), features, False)
            self.check(("not", ("any",)), features, True)
            self.check(("all", A, ("any",)), features, False)
            self.check(("any", A, ("all",)), features, True)
            self.check(("all", A, B), features, features == ("a", "b"))
            self.check(("any", A, B), features, features != ())

    def test_whole_names_are_compared(self):
        self.check(("feature", "a"), ("ab", "ba"), False)
        self.check(("feature", "ab"), ("a", "b"), False)
        self.check(("feature", "ab"), ("abc", "ab"), True)

    def test_named_as_the_words_are(self):
        for formula in WORDS:
            self.check(formula, (), False)
            self.check(formula, (formula[1],), True)
            self.check(formula, tuple(other[1] for other in WORDS if other != formula), False)
            self.check(("not", formula), (formula[1],), False)

    def test_small_ones_for_every_set(self):
        subsets = all_subsets(("a", "b", "c"))
        for formula in small_formulas():
            good = where_it_holds(formula, subsets)
            for features in subsets:
                self.check(formula, features, features in good)

    def test_random_ones_for_every_set(self):
        subsets = all_subsets(("a", "b", "not", "z"))
        for formula in random_formulas(("a", "b", "not", "z"), 300, 3):
            good = where_it_holds(formula, subsets)
            for features in subsets:
                self.check(formula, features, features in good)

    def test_in_any_order(self):
        subsets = all_subsets(("a", "b", "c", "d"))
        for formula in random_formulas(("a", "b", "c"), 40, 4):
            good = where_it_holds(formula, subsets)
            for features in subsets:
                for order in itertools.permutations(features):
                    self.check(formula, order, features in good)

    def test_features_that_are_not_in_the_formula(self):
        for formula in random_formulas(("a", "b"), 60, 5):
            for features in all_subsets(("a", "b")):
                plain = holds(formula, features)
                self.check(formula, features + ("x", "y"), plain)
                self.check(formula, ("zz", "aa") + features, plain)

    def test_deepest_and_largest(self):
        for times in range(10):
            self.check(negated_often(A, times), ("a",), times % 2 == 0)
            self.check(negated_often(A, times), (), times % 2 == 1)
        parts = tuple(("feature", "abcdefgh"[:1 + at % 8]) for at in range(398))
        features = tuple("abcdefgh"[:1 + at] for at in range(8))
        self.check(("all", *parts, ("feature", "x")), features, False)
        self.check(("all", *parts, ("feature", "x")), features + ("x",), True)
        self.check(("any", *parts, ("feature", "x")), ("y",), False)
        self.check(("any", *parts, ("feature", "x")), ("y", "x"), True)


class Positive(unittest.TestCase):
    def check(self, formula, answer):
        with self.subTest(formula=formula):
            self.assertIs(is_positive(formula), answer)

    def test_nowhere(self):
        for leaf in LEAVES + WORDS:
            for formula in (leaf, ("all", leaf), ("any", leaf, A), ("all", ("any", A, leaf), ("all",))):
                self.check(formula, True)
        self.check(wrapped(A, 9, lambda inner: ("all", A, inner, B)), True)
        self.check(("any",) + (A,) * 399, True)

    def test_at_the_top(self):
        for leaf in LEAVES + WORDS:
            self.check(("not", leaf), False)
            self.check(("not", ("not", leaf)), False)
            self.check(("not", ("all", leaf, A)), False)

    def test_deep_inside(self):
        for times in range(1, 9):
            for wrap in (lambda inner: ("all", inner), lambda inner: ("any", A, inner), lambda inner: ("all", inner, B),
                         lambda inner: ("any", A, inner, B)):
                self.check(wrapped(("not", A), times, wrap), False)
                self.check(wrapped(("not", ("all",)), times, wrap), False)
                self.check(wrapped(A, times, wrap), True)

    def test_among_many(self):
        for at in (0, 1, 200, 396, 397):
            self.check(("all",) + (A,) * at + (("not", B),) + (A,) * (397 - at), False)

    def test_small_and_random_ones(self):
        for formula in small_formulas() + random_formulas(("a", "b", "not"), 300, 6):
            self.check(formula, not has_not(formula))

    def test_holds_for_greater_sets(self):
        subsets = all_subsets(("a", "b", "c"))
        for formula in random_formulas(("a", "b", "c"), 300, 7):
            if is_positive(formula):
                for less, more in itertools.product(subsets, repeat=2):
                    if set(less) <= set(more) and holds(formula, less):
                        self.assertTrue(holds(formula, more), (formula, less, more))


class GeneralRules(unittest.TestCase):
    def test_arguments_by_name(self):
        for thing in ("a", "", "A", 1, None, A, ("not",), ("all",)):
            self.assertIs(is_name(thing=thing), is_name(thing))
            self.assertIs(is_formula(thing=thing), is_formula(thing))
        for formula in small_formulas():
            self.assertEqual(features_of(formula=formula), features_of(formula))
            self.assertIs(is_positive(formula=formula), is_positive(formula))
            for features in ((), ("a",), ("b", "a")):
                answer = holds(formula, features)
                self.assertIs(holds(features=features, formula=formula), answer)
                self.assertIs(holds(formula=formula, features=features), answer)
                self.assertIs(holds(formula, features=features), answer)

    def test_no_argument_is_changed(self):
        things = builtin_things()
        for thing in things:
            is_name(thing)
            is_formula(thing)
            is_formula(("all", thing))
            is_formula(("feature", thing))
        self.assertEqual(things, builtin_things())

    def test_no_iterator_is_used_up(self):
        letters = iter(["a", "b"])
        for thing in (letters, ("not", letters), ("feature", letters), ("all", A, letters)):
            is_name(thing)
            is_formula(thing)
        self.assertEqual(list(letters), ["a", "b"])

    def test_equal_calls_return_equal_results(self):
        formulas = random_formulas(("a", "b", "c"), 60, 8)
        subsets = all_subsets(("a", "b", "c"))

        def answers(rows):
            return {row: (is_formula(row), features_of(row), is_positive(row), [holds(row, some) for some in subsets])
                    for row in rows}

        first = answers(formulas)
        self.assertEqual(answers(formulas[::-1]), first)
        self.assertEqual(answers(formulas), first)

    def test_somewhat_beyond_the_limits_no_error_is_raised(self):
        for formula in (negated_often(A, 10), mixed(C, 12), ("all",) + (A,) * 400, ("any",) + (B,) * 450,
                        ("feature", "abcdefghi"), ("not", ("feature", "abcdefghij"))):
            with self.subTest(formula=formula):
                features_of(formula)
                is_positive(formula)
                holds(formula, ("a",))


if __name__ == "__main__":
    unittest.main()
