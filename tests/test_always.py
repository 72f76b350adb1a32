import itertools
import random
import unittest

from featureunion.always import always, never, settled, with_always, without
from featureunion.errors import BadRequest
from featureunion.formulas import is_formula
from featureunion.libraries import is_library, view
from featureunion.manifests import closed_requests, closure
from featureunion.steps import is_additive, is_additive_above
from support import (
    A, ABC, ALWAYS, Answers, B, C, EIGHT, NEVER, STD, TWELVE_ITEMS, all_subsets, builtin_things, chain_down, chain_up,
    features_in, gone_with, libraries_of_all_sizes, manifests_of, no_requests, other_things, random_additive_library,
    random_formula, random_library, random_manifest, ring, small_libraries, without_implied, wrapped,
)

# d leads into the ring of a and b, and g to d; c, e and f stand around it.
MIXED = (("a", ("b",)), ("b", ("a",)), ("c", ()), ("d", ("b", "c")), ("e", ()), ("f", ("c", "e")), ("g", ("d",)))


def replaced(formula, features, other):
    word, *parts = formula
    if word == "feature":
        return other if parts[0] in features else formula
    return (word, *(replaced(part, features, other) for part in parts))


def items_replaced(items, features, other):
    return tuple((item, tuple((replaced(formula, features, other), version) for formula, version in rows))
                 for item, rows in items)


def with_always_by_definition(answers, request):
    return (answers.manifest, items_replaced(answers.items, answers.closure(request), ("all",)))


def gone_by_trying(answers, request):
    """The features of a request, and all that imply one of them, directly or through others."""
    return [feature for feature in answers.features if set(answers.closure((feature,))) & set(request)]


def without_by_definition(answers, request):
    gone = gone_by_trying(answers, request)
    manifest = tuple((feature, tuple(name for name in implied if name not in gone))
                     for feature, implied in answers.manifest if feature not in gone)
    return (manifest, items_replaced(answers.items, gone, ("any",)))


def is_additive_by_trying(library):
    return Answers(library).breaking_steps() == ()


def always_by_trying(answers):
    starts = [set(closed) for closed, _, _ in answers.breaking_steps()]
    found = [request for request in answers.requests if not any(set(request) <= start for start in starts)]
    return tuple(sorted(request for request in found if len(request) == len(found[0])))


def never_by_trying(answers):
    found = [request for request in answers.requests
             if is_additive_by_trying(without_by_definition(answers, request))]
    return tuple(sorted(request for request in found if len(request) == len(found[0])))


def settled_by_trying(answers):
    """By the libraries of all pairs (on, off)."""
    found = []
    for on, off in itertools.product(answers.requests, repeat=2):
        if not set(answers.closure(on)) & set(off):
            rest = Answers(without_by_definition(answers, off))
            if is_additive_by_trying(with_always_by_definition(rest, on)):
                found.append((on, off))
    fewest = min(len(on) + len(off) for on, off in found)
    return tuple(sorted(pair for pair in found if len(pair[0]) + len(pair[1]) == fewest))


def two_item_libraries(seed, many):
    """Libraries of four features whose items are gone, or have another version, with some of them."""
    source = random.Random(seed)
    names = EIGHT[:4]
    manifests = [without_implied(names), chain_up(names), chain_down(names), ring(("a", "b")) + without_implied("cd")]
    for at in range(many):
        def gone():
            return gone_with(*source.sample(names, source.choice((1, 2, 3))))

        def changed():
            return ((random_formula(source, names, 2), 2), (random_formula(source, names, 2), 1))

        yield (manifests[at % 4], (("x", gone()), ("y", source.choice((gone, changed))())))


class Examples(unittest.TestCase):
    def setUp(self):
        manifest = (('alloc', ()), ('nostd', ()), ('std', ('alloc',)))
        std, alloc = ('feature', 'std'), ('feature', 'alloc')
        self.library = (manifest, (
            ('lock', ((std, 2), (alloc, 1))), ('panic', ((('not', std), 1),)), ('vec', ((alloc, 1),))))

    def test_point_18_always(self):
        library = self.library
        self.assertEqual(
            (always(library), view(with_always(library, ('std',)), ())),
            ((('std',),), (('lock', 2), ('vec', 1))))

    def test_point_18_never(self):
        library = self.library
        self.assertEqual(
            (never(library), settled(library), without(library, ('alloc',))[0]),
            ((('alloc',), ('std',)), (((), ('alloc',)), ((), ('std',)), (('std',), ())), (('nostd', ()),)))


class Always(unittest.TestCase):
    def check(self, library, answer):
        with self.subTest(library=library):
            found = always(library)
            self.assertEqual(found, answer)
            self.assertEqual({type(part) for part in (found, *found)}, {tuple})

    def test_additive(self):
        source = random.Random(1)
        for library in [((), ()), (ABC, ()), (ABC, (("x", ((A, 1),)),)), (ABC, (("x", ((ALWAYS, 1),)),))]:
            self.check(library, ((),))
        for size in range(9):
            self.check(random_additive_library(source, random_manifest(source, size), TWELVE_ITEMS), ((),))

    def test_one_feature(self):
        self.check((ABC, (("x", gone_with("b")),)), (("b",),))

    def test_several_requests_ascending(self):
        self.check((ABC, (("x", gone_with("a", "b")),)), (("a", "b"),))
        # x is gone with a or with b, and comes back with c: what is gone from the start cannot be lost.
        self.check((ABC, (("x", ((("any", C, ("not", ("any", A, B))), 1),)),)), (("a",), ("b",), ("c",)))
        self.check((chain_up(("a", "b")), (("x", gone_with("b")),)), (("a",), ("b",)))
        self.check((ring(("a", "b", "c")), (("x", gone_with("b")),)), (("a",), ("b",), ("c",)))
        self.check((chain_down(("a", "b", "c")), (("x", gone_with("b")),)), (("b",), ("c",)))
        # Gone with exactly one of a and b: above each of them one more step breaks nothing, or brings it back.
        one = ("any", ("all", A, B), ("not", ("any", A, B)))
        self.check((ABC, (("x", ((one, 1),)),)), (("a",), ("b",)))

    def test_every_feature_is_needed(self):
        library = (without_implied(EIGHT), tuple((name, gone_with(name)) for name in EIGHT))
        self.check(library, (EIGHT,))

    def test_fewest_not_only_least_under_inclusion(self):
        # Above a and above b, c together; ("a",) alone is enough, so ("b", "c") is not returned.
        library = (ABC, (("x", ((("any", A, ("all", B, C), ("not", B)), 1),)),))
        self.check(library, always_by_trying(Answers(library)))

    def test_against_all_requests(self):
        many = set()
        for library in small_libraries() + libraries_of_all_sizes(2) + list(two_item_libraries(3, 200)):
            answers = Answers(library)
            answer = always_by_trying(answers)
            self.check(library, answer)
            many.add((len(answer), len(answer[0])))
        self.assertGreater(len(many), 8)

    def test_by_is_additive_above(self):
        for library in small_libraries()[::3] + list(two_item_libraries(4, 60)):
            found = [request for request in all_subsets(features_in(library[0])) if is_additive_above(library, request)]
            self.check(library, tuple(request for request in found if len(request) == len(found[0])))


class WithAlways(unittest.TestCase):
    def check(self, library, request):
        answers = Answers(library)
        with self.subTest(library=library, request=request):
            found = with_always(library, request)
            self.assertEqual(found, with_always_by_definition(answers, request))
            self.assertIs(is_library(found), True)
            for other in answers.requests:
                self.assertEqual(view(found, other), answers.view(other, request))

    def test_rows(self):
        library = (ABC, (("x", ((("all", A, ("not", B)), 3), (C, 1))), ("y", ((NEVER, 2),))))
        self.assertEqual(with_always(library, ()), library)
        self.assertEqual(with_always(library, ("a",)), (
            ABC, (("x", ((("all", ("all",), ("not", B)), 3), (C, 1))), ("y", ((NEVER, 2),)))))
        self.assertEqual(with_always(library, ("b", "c")), (
            ABC, (("x", ((("all", A, ("not", ("all",))), 3), (("all",), 1))), ("y", ((NEVER, 2),)))))

    def test_the_closure_is_always_built(self):
        items = (("x", ((A, 1), (B, 2), (C, 3))),)
        self.assertEqual(with_always((chain_up(("a", "b", "c")), items), ("b",)), (
            chain_up(("a", "b", "c")), (("x", ((A, 1), (("all",), 2), (("all",), 3))),)))
        self.assertEqual(with_always((ring(("a", "b", "c")), items), ("b",))[1], (
            ("x", ((("all",), 1), (("all",), 2), (("all",), 3))),))

    def test_features_named_like_the_words(self):
        manifest = without_implied(("all", "any", "feature", "not"))
        items = (("x", ((("all", ("feature", "all"), ("not", ("feature", "not"))), 1), (("feature", "feature"), 2))),)
        self.assertEqual(with_always((manifest, items), ("all", "feature", "not")), (
            manifest, (("x", ((("all", ("all",), ("not", ("all",))), 1), (("all",), 2))),)))

    def test_all_requests_of_small_libraries(self):
        for library in small_libraries()[::2]:
            for request in all_subsets(features_in(library[0])):
                self.check(library, request)

    def test_libraries_of_all_sizes(self):
        source = random.Random(5)
        for library in libraries_of_all_sizes(6):
            answers = Answers(library)
            requests = {(), answers.features, source.choice(answers.requests), source.choice(answers.closed)}
            for request in sorted(requests):
                self.check(library, request)

    def test_formulas_ten_deep_and_of_400_parts(self):
        deep = wrapped(("feature", "b"), 9, lambda inner: ("not", inner))
        wide = ("any", *(("feature", name) for name in (("a", "b", "c") * 133)))
        both = wrapped(("all", *(("feature", name) for name in ("c", "a", "b") * 130)), 8, lambda inner: ("any", inner))
        for formula in (deep, wide, both):
            self.assertIs(is_formula(formula), True)
            for request in all_subsets(("a", "b", "c")):
                for manifest in (ABC, chain_up(("a", "b", "c"))):
                    self.check((manifest, (("x", ((formula, 1), (ALWAYS, 2))),)), request)
        self.assertEqual(with_always((ABC, (("x", ((wide, 1),)),)), ("a", "b", "c")), (
            ABC, (("x", ((("any", *(("all",),) * 399), 1),)),)))

    def test_without_features_or_items(self):
        for library in (((), ()), (ABC, ()), ((), (("x", ((ALWAYS, 1),)),))):
            self.assertEqual(with_always(library, ()), library)
        self.assertEqual(with_always((ABC, ()), ("a", "c")), (ABC, ()))

    def test_bad_request(self):
        library = (ABC, (("x", ((A, 1),)),))
        for thing in no_requests():
            with self.subTest(thing=thing):
                with self.assertRaises(BadRequest) as context:
                    with_always(library, thing)
                self.assertIs(context.exception.value, thing)


class Without(unittest.TestCase):
    def check(self, library, request):
        answers = Answers(library)
        gone = set(gone_by_trying(answers, request))
        with self.subTest(library=library, request=request):
            found = without(library, request)
            self.assertEqual(found, without_by_definition(answers, request))
            self.assertIs(is_library(found), True)
            staying = tuple(closed for closed in answers.closed if not gone & set(closed))
            self.assertEqual(closed_requests(found[0]), staying)
            for closed in staying:
                self.assertEqual(view(found, closed), answers.view(closed))

    def test_rows(self):
        library = (ABC, (("x", ((("all", A, ("not", B)), 3), (C, 1))), ("y", ((NEVER, 2),))))
        self.assertEqual(without(library, ()), library)
        self.assertEqual(without(library, ("a",)), (ABC[1:], (
            ("x", ((("all", ("any",), ("not", B)), 3), (C, 1))), ("y", ((NEVER, 2),)))))
        self.assertEqual(without(library, ("a", "b", "c")), ((), (
            ("x", ((("all", ("any",), ("not", ("any",))), 3), (("any",), 1))), ("y", ((NEVER, 2),)))))

    def test_features_that_imply_one_of_them(self):
        items = (("x", ((A, 1), (B, 2), (C, 3))),)
        self.assertEqual(without((chain_up(("a", "b", "c")), items), ("b",)), (
            (("c", ()),), (("x", ((("any",), 1), (("any",), 2), (C, 3))),)))
        self.assertEqual(without((chain_down(("a", "b", "c")), items), ("b",)), (
            (("a", ()),), (("x", ((A, 1), (("any",), 2), (("any",), 3))),)))
        self.assertEqual(without((ring(("a", "b", "c")), items), ("b",)), (
            (), (("x", ((("any",), 1), (("any",), 2), (("any",), 3))),)))

    def test_through_others_and_rings(self):
        rows = tuple((("feature", name), at) for at, name in enumerate("abcdeg"))
        library = (MIXED, (("x", rows), ("y", ((("feature", "f"), 1),))))
        for request in all_subsets(features_in(MIXED)):
            self.check(library, request)
        self.assertEqual(without(library, ("a",))[0], (("c", ()), ("e", ()), ("f", ("c", "e"))))
        self.assertEqual(without(library, ("c",))[0], (("a", ("b",)), ("b", ("a",)), ("e", ())))
        self.assertEqual(without(library, ("g",))[0], MIXED[:6])

    def test_every_manifest_of_three_features(self):
        for manifest in manifests_of(("a", "b", "c")):
            library = (manifest, (("x", ((A, 1), (("not", B), 2), (C, 3))),))
            for request in all_subsets(("a", "b", "c")):
                self.check(library, request)

    def test_all_requests_of_small_libraries(self):
        for library in small_libraries()[::3]:
            for request in all_subsets(features_in(library[0])):
                self.check(library, request)

    def test_libraries_of_all_sizes(self):
        source = random.Random(7)
        for library in libraries_of_all_sizes(8):
            answers = Answers(library)
            requests = {(), answers.features, source.choice(answers.requests), source.choice(answers.requests[:9])}
            for request in sorted(requests):
                self.check(library, request)

    def test_formulas_ten_deep_and_of_400_parts(self):
        deep = wrapped(("feature", "b"), 9, lambda inner: ("not", inner))
        wide = ("any", *(("feature", name) for name in (("a", "b", "c") * 133)))
        for formula in (deep, wide):
            for request in all_subsets(("a", "b", "c")):
                for manifest in (ABC, chain_up(("a", "b", "c"))):
                    self.check((manifest, (("x", ((formula, 1), (ALWAYS, 2))),)), request)

    def test_bad_request(self):
        library = (ABC, (("x", ((A, 1),)),))
        for thing in no_requests():
            with self.subTest(thing=thing):
                with self.assertRaises(BadRequest) as context:
                    without(library, thing)
                self.assertIs(context.exception.value, thing)


class Never(unittest.TestCase):
    def check(self, library, answer):
        with self.subTest(library=library):
            found = never(library)
            self.assertEqual(found, answer)
            self.assertEqual({type(part) for part in (found, *found)}, {tuple})

    def test_additive(self):
        source = random.Random(9)
        for library in [((), ()), (ABC, ()), (ABC, (("x", ((A, 1),)),))]:
            self.check(library, ((),))
        for size in range(9):
            self.check(random_additive_library(source, random_manifest(source, size), TWELVE_ITEMS), ((),))

    def test_one_feature(self):
        self.check((ABC, (("x", gone_with("b")),)), (("b",),))
        self.check((ABC, (("x", gone_with("a", "c")),)), (("a",), ("c",)))
        # Without c also a and b are gone, which imply it.
        self.check((chain_up(("a", "b", "c")), (("x", gone_with("a")),)), (("a",), ("b",), ("c",)))
        self.check((chain_up(("a", "b", "c")), (("x", gone_with("b")),)), (("b",), ("c",)))

    def test_several_features(self):
        library = (ABC, (("x", gone_with("a")), ("y", gone_with("b", "c"))))
        self.check(library, (("a", "b"), ("a", "c")))
        self.check((without_implied(EIGHT), tuple((name, gone_with(name)) for name in EIGHT)), (EIGHT,))

    def test_item_that_is_gone_and_comes_back(self):
        self.check((ABC, (("x", ((("any", ("not", A), B), 1),)),)), (("a",),))

    def test_against_all_requests(self):
        many = set()
        libraries = small_libraries()[::2] + list(two_item_libraries(10, 120))
        libraries += [library for library in libraries_of_all_sizes(11) if len(library[0]) <= 6]
        for library in libraries:
            answer = never_by_trying(Answers(library))
            self.check(library, answer)
            many.add((len(answer), len(answer[0])))
        self.assertGreater(len(many), 8)

    def test_by_without_and_is_additive(self):
        for library in list(two_item_libraries(12, 60)) + libraries_of_all_sizes(13)[-5:]:
            requests = all_subsets(features_in(library[0]))
            found = [request for request in requests if is_additive(without(library, request))]
            self.check(library, tuple(request for request in found if len(request) == len(found[0])))


class Settled(unittest.TestCase):
    def check(self, library, answer):
        with self.subTest(library=library):
            found = settled(library)
            self.assertEqual(found, answer)
            parts = [found, *found, *(request for pair in found for request in pair)]
            self.assertEqual({type(part) for part in parts}, {tuple})

    def test_additive(self):
        source = random.Random(14)
        for library in [((), ()), (ABC, ()), (ABC, (("x", ((A, 1),)),))]:
            self.check(library, (((), ()),))
        for size in range(9):
            self.check(random_additive_library(source, random_manifest(source, size), TWELVE_ITEMS), (((), ()),))

    def test_on_or_off(self):
        self.check((ABC, (("x", gone_with("b")),)), (((), ("b",)), (("b",), ())))
        self.check((ABC, (("x", gone_with("a", "b")),)), (((), ("a",)), ((), ("b",))))
        # With a and b on both items are gone for good; with one of them off the other can be on.
        library = (ABC, (("x", gone_with("a")), ("y", gone_with("b"))))
        self.check(library, (((), ("a", "b")), (("a",), ("b",)), (("a", "b"), ()), (("b",), ("a",))))

    def test_both_are_needed(self):
        # x is gone with a or b, so that one on is cheap; y with c and d together, so that one off is cheap.
        d = ("feature", "d")
        items = (("x", ((("not", ("any", A, B)), 1),)), ("y", ((("not", ("all", C, d)), 1),)))
        library = (without_implied(("a", "b", "c", "d")), items)
        self.assertEqual((len(always(library)[0]), len(never(library)[0])), (3, 3))
        self.check(library, (
            (("a",), ("c",)), (("a",), ("d",)), (("b",), ("c",)), (("b",), ("d",))))
        for manifest in (
                (("a", ("b",)), ("b", ()), ("c", ()), ("d", ())), (("a", ()), ("b", ()), ("c", ()), ("d", ("a",))),
                (("a", ("c",)), ("b", ("c",)), ("c", ()), ("d", ())), (("a", ()), ("b", ()), ("c", ("b",)), ("d", ()))):
            self.check((manifest, items), settled_by_trying(Answers((manifest, items))))

    def test_no_feature_of_the_closure_of_on_is_in_off(self):
        for library in two_item_libraries(16, 120):
            for on, off in settled(library):
                self.assertFalse(set(closure(library[0], on)) & set(off))
                self.assertEqual(on, tuple(sorted(set(on))))
                self.assertEqual(off, tuple(sorted(set(off))))

    def test_against_all_pairs(self):
        many = set()
        libraries = small_libraries()[::4] + list(two_item_libraries(17, 40))
        for library in libraries:
            answer = settled_by_trying(Answers(library))
            self.check(library, answer)
            many.add((len(answer), len(answer[0][0]) + len(answer[0][1])))
        self.assertGreater(len(many), 6)

    def test_larger_libraries_against_all_pairs(self):
        # Here by breaking steps that start above on and lead to what has nothing of off.
        for library in libraries_of_all_sizes(18):
            answers = Answers(library)
            spans = {(closed, answers.closure(closed, (feature,))) for closed, feature, _ in answers.breaking_steps()}
            spans = [(set(start), set(end)) for start, end in spans]
            fewest = len(answers.features)
            found = []
            pairs = sorted(itertools.product(answers.requests, repeat=2), key=lambda pair: len(pair[0]) + len(pair[1]))
            for on, off in pairs:
                if len(on) + len(off) > fewest:
                    break
                if not set(answers.closure(on)) & set(off) and not any(
                        set(on) <= start and not end & set(off) for start, end in spans):
                    fewest = len(on) + len(off)
                    found.append((on, off))
            self.check(library, tuple(sorted(found)))


class Guarantees(unittest.TestCase):
    def test_additive_above_every_greater_request(self):
        for library in small_libraries()[::5] + list(two_item_libraries(19, 24)):
            answers = Answers(library)
            above = {request for request in answers.requests if is_additive_above(library, request)}
            for request, greater in itertools.product(above, answers.requests):
                if set(request) <= set(greater):
                    self.assertIn(greater, above)
                    self.assertIs(is_additive(with_always(library, greater)), True)
            for request in answers.requests:
                self.assertIs(is_additive(with_always(library, request)), request in above)

    def test_additive_without_more_features(self):
        for library in small_libraries()[::5] + list(two_item_libraries(20, 24)):
            answers = Answers(library)
            off = {request for request in answers.requests if is_additive(without(library, request))}
            for request, greater in itertools.product(off, answers.requests):
                if set(request) <= set(greater):
                    self.assertIn(greater, off)

    def test_additive_with_more_features_on_and_off(self):
        for library in small_libraries()[::12] + list(two_item_libraries(21, 8)):
            answers = Answers(library)
            pairs = [(on, off) for on, off in itertools.product(answers.requests, repeat=2)
                     if not set(answers.closure(on)) & set(off)]
            good = {(on, off) for on, off in pairs if is_additive(with_always(without(library, off), on))}
            for (on, off), (more, less) in itertools.product(good, pairs):
                if set(on) <= set(more) and set(off) <= set(less):
                    self.assertIn((more, less), good)
            self.assertTrue(set(settled(library)) <= good)

    def test_what_is_returned_makes_the_library_additive(self):
        for library in libraries_of_all_sizes(22):
            for on in always(library):
                self.assertIs(is_additive_above(library, on), True)
                self.assertIs(is_additive(with_always(library, on)), True)
            for off in never(library)[:5]:
                self.assertIs(is_additive(without(library, off)), True)
            for on, off in settled(library)[:5]:
                self.assertIs(is_additive(with_always(without(library, off), on)), True)
                self.assertLessEqual(len(on) + len(off), len(always(library)[0]))
                self.assertLessEqual(len(on) + len(off), len(never(library)[0]))


class GeneralRules(unittest.TestCase):
    def test_arguments_by_name(self):
        for library in libraries_of_all_sizes(23)[::4] + [STD]:
            for function in (always, never, settled):
                self.assertEqual(function(library=library), function(library))
            request = features_in(library[0])[1:3]
            for function in (with_always, without):
                self.assertEqual(function(request=request, library=library), function(library, request))
                self.assertEqual(function(library, request=request), function(library, request))
                with self.assertRaises(BadRequest):
                    function(request=["a"], library=library)

    def test_no_argument_is_changed(self):
        def made():
            return builtin_things() + [["alloc"], {"alloc": ["std"]}, [["alloc"], "std"]]

        things = made()
        for thing in things:
            for function in (with_always, without):
                with self.assertRaises(BadRequest):
                    function(STD, thing)
        self.assertEqual(things, made())
        names = iter(["alloc", "std"])
        for thing in (names, (names,)):
            for function in (with_always, without):
                with self.assertRaises(BadRequest):
                    function(STD, thing)
        self.assertEqual(list(names), ["alloc", "std"])

    def test_bad_request_without_features(self):
        for thing in other_things() + [("a",), []]:
            for function in (with_always, without):
                with self.subTest(thing=thing, function=function):
                    with self.assertRaises(BadRequest) as context:
                        function(((), ()), thing)
                    self.assertIs(context.exception.value, thing)

    def test_equal_calls_return_equal_results(self):
        given = libraries_of_all_sizes(24)[::3]

        def found(libraries):
            return {library: [always(library), never(library), settled(library)]
                    + [(with_always(library, request), without(library, request))
                       for request in all_subsets(features_in(library[0]))[:8]] for library in libraries}

        first = found(given)
        self.assertEqual(found(given[::-1]), first)
        self.assertEqual(found(given), first)

    def test_somewhat_beyond_the_limits_no_error_is_raised(self):
        source = random.Random(25)
        nine = EIGHT + ("i",)
        deep = wrapped(("feature", "a"), 12, lambda inner: ("not", inner))
        for manifest in (without_implied(nine), ring(nine), chain_down(nine)):
            library = (manifest, random_library(source, manifest, TWELVE_ITEMS)[1] + (("zzzzzzzzz", ((deep, 100),)),))
            for function in (always, never, settled):
                self.assertGreater(len(function(library)), 0)
            self.assertEqual(with_always(library, nine)[0], manifest)
            self.assertEqual(without(library, nine)[0], ())


if __name__ == "__main__":
    unittest.main()
