import itertools
import random
import unittest

from featureunion.errors import BadRequest
from featureunion.groups import losses
from featureunion.steps import breaking_pair, breaking_steps, is_additive, is_additive_above, safe_features
from support import (
    Answers, EIGHT, TWELVE_ITEMS, all_subsets, builtin_things, chain_down, chain_up, gone_with,
    libraries_of_all_sizes, no_requests, other_things, random_library, ring, small_libraries, without_implied,
)

A, B, C = ("feature", "a"), ("feature", "b"), ("feature", "c")
ALWAYS, NEVER = ("all",), ("any",)
STD_FEATURE, ALLOC = ("feature", "std"), ("feature", "alloc")
STD = ((("alloc", ()), ("nostd", ()), ("std", ("alloc",))), (
    ("lock", ((STD_FEATURE, 2), (ALLOC, 1))), ("panic", ((("not", STD_FEATURE), 1),)), ("vec", ((ALLOC, 1),))))
AB, ABC = without_implied(("a", "b")), without_implied(("a", "b", "c"))


def libraries_with_ties():
    """Libraries of two items, each of which is gone where some features are together."""
    names = ("a", "b", "c", "d")
    pairs = list(itertools.product(all_subsets(names), repeat=2))
    manifests = [without_implied(names), chain_up(names), chain_down(names), ring(("a", "b")) + (("c", ()), ("d", ()))]
    return [(manifest, (("x", gone_with(*one)), ("y", gone_with(*other))))
            for manifest in manifests for one, other in pairs[::3]]


def contains(greater, request):
    return set(request) <= set(greater)


def pairs_by_trying(answers):
    """All triples (request, feature, item) by which an item is lost, for every request, closed or not."""
    return [(request, feature, item) for request, feature in itertools.product(answers.requests, answers.features)
            for item, version in answers.lost(request, (feature,))]


class Examples(unittest.TestCase):
    def setUp(self):
        manifest = (('alloc', ()), ('nostd', ()), ('std', ('alloc',)))
        std, alloc = ('feature', 'std'), ('feature', 'alloc')
        self.library = (manifest, (
            ('lock', ((std, 2), (alloc, 1))), ('panic', ((('not', std), 1),)), ('vec', ((alloc, 1),))))

    def test_point_11(self):
        library = self.library
        self.assertEqual(
            (breaking_steps(library)[:3], is_additive_above(library, ('std',))),
            ((((), 'std', 'panic'), (('alloc',), 'std', 'lock'), (('alloc',), 'std', 'panic')), True))

    def test_point_12(self):
        library = self.library
        self.assertEqual((breaking_pair(library), safe_features(library)), (((), 'std', 'panic'), ('alloc', 'nostd')))


class BreakingSteps(unittest.TestCase):
    def check(self, library, answer):
        with self.subTest(library=library):
            found = breaking_steps(library)
            self.assertEqual(found, answer)
            self.assertIs(type(found), tuple)
            self.assertEqual({type(step) for step in found} - {tuple}, set())
            self.assertIs(is_additive(library), answer == ())

    def test_all_of_the_example(self):
        self.check(STD, (
            ((), "std", "panic"), (("alloc",), "std", "lock"), (("alloc",), "std", "panic"),
            (("nostd",), "std", "panic"), (("alloc", "nostd"), "std", "lock"), (("alloc", "nostd"), "std", "panic")))

    def test_gone_or_with_another_version(self):
        self.check((AB, (("x", ((A, 1),)),)), ())
        self.check((AB, (("x", ((("not", A), 1),)),)), (((), "a", "x"), (("b",), "a", "x")))
        self.check((AB, (("x", ((A, 2), (ALWAYS, 1))),)), (((), "a", "x"), (("b",), "a", "x")))
        self.check((AB, (("x", ((A, 1), (ALWAYS, 1))),)), ())
        self.check((AB, (("x", ((A, 0), (ALWAYS, 1))),)), (((), "a", "x"), (("b",), "a", "x")))
        self.check((AB, (("x", ((A, 1), (ALWAYS, 0))),)), (((), "a", "x"), (("b",), "a", "x")))
        self.check((AB, (("x", ((A, 1), (B, 2))),)), ((("b",), "a", "x"),))

    def test_order(self):
        # Two requests of one feature each stand before one of two, although ("a", "b") is less than ("b",).
        items = (("x", ((("not", C), 1),)), ("y", ((("not", ("any", B, C)), 1),)))
        self.check((ABC, items), (
            ((), "b", "y"), ((), "c", "x"), ((), "c", "y"), (("a",), "b", "y"), (("a",), "c", "x"), (("a",), "c", "y"),
            (("b",), "c", "x"), (("a", "b"), "c", "x")))

    def test_steps_lead_to_the_closure(self):
        self.check((chain_up(("a", "b", "c")), (("x", gone_with("c")),)), (
            ((), "a", "x"), ((), "b", "x"), ((), "c", "x")))
        self.check((chain_down(("a", "b", "c")), (("x", gone_with("c")),)), (
            ((), "c", "x"), (("a",), "c", "x"), (("a", "b"), "c", "x")))
        self.check((ring(("a", "b", "c")), (("x", gone_with("b")),)), (((), "a", "x"), ((), "b", "x"), ((), "c", "x")))
        # What is lost only at requests that are not closed is not lost.
        self.check((chain_up(("a", "b")), (("x", ((("not", ("all", A, ("not", B))), 1),)),)), ())

    def test_an_item_that_comes_back(self):
        self.check((AB, (("x", ((("any", ("not", A), B), 1),)),)), (((), "a", "x"),))

    def test_an_item_with_another_version_comes_before_it_is_gone(self):
        self.check((AB, (("x", ((("all", A, B), 3), (A, 1), (B, 1))),)), ((("a",), "b", "x"), (("b",), "a", "x")))

    def test_without_features_or_items(self):
        self.check(((), ()), ())
        self.check(((), (("x", ((ALWAYS, 1),)),)), ())
        self.check((without_implied(EIGHT), ()), ())

    def test_small_libraries(self):
        additive = 0
        for library in small_libraries():
            answer = Answers(library).breaking_steps()
            self.check(library, answer)
            additive += answer == ()
        self.assertGreater(additive, 50)
        self.assertGreater(len(small_libraries()) - additive, 50)

    def test_libraries_of_all_sizes(self):
        for library in libraries_of_all_sizes(11) + libraries_of_all_sizes(12):
            self.check(library, Answers(library).breaking_steps())

    def test_eight_features_and_twelve_items(self):
        items = tuple((item, gone_with(*EIGHT[at % 8:at % 8 + 2])) for at, item in enumerate(TWELVE_ITEMS))
        library = (without_implied(EIGHT), items)
        answer = Answers(library).breaking_steps()
        self.assertGreater(len(answer), 1000)
        self.check(library, answer)


class AdditiveAbove(unittest.TestCase):
    def check(self, library, request, answer):
        with self.subTest(library=library, request=request):
            self.assertIs(is_additive_above(library, request), answer)

    def check_all(self, library):
        answers = Answers(library)
        starts = [closed for closed, feature, item in answers.breaking_steps()]
        for request in answers.requests:
            self.check(library, request, not any(contains(start, request) for start in starts))

    def test_every_request_of_the_example(self):
        for request, answer in (
                ((), False), (("alloc",), False), (("nostd",), False), (("std",), True), (("alloc", "nostd"), False),
                (("alloc", "std"), True), (("nostd", "std"), True), (("alloc", "nostd", "std"), True)):
            self.check(STD, request, answer)

    def test_requests_that_are_not_closed(self):
        library = (chain_up(("a", "b", "c")), (("x", gone_with("c")), ("y", gone_with("b"))))
        self.check(library, (), False)
        for request in (("a",), ("b",), ("a", "b"), ("a", "c")):
            self.check(library, request, True)
        self.check(library, ("c",), False)

    def test_small_libraries_and_all_sizes(self):
        for library in small_libraries() + libraries_of_all_sizes(13)[:30]:
            self.check_all(library)

    def test_large_libraries(self):
        source = random.Random(14)
        for library in libraries_of_all_sizes(14)[42:]:
            answers = Answers(library)
            starts = [closed for closed, feature, item in answers.breaking_steps()]
            for request in source.sample(answers.requests, min(12, len(answers.requests))):
                self.check(library, request, not any(contains(start, request) for start in starts))
            self.check(library, answers.features, True)

    def test_above_nothing_is_additive(self):
        for library in small_libraries():
            self.assertIs(is_additive_above(library, ()), is_additive(library))

    def test_bad_request(self):
        for library in ((ABC, (("x", gone_with("a")),)), (ring(("a", "b", "c")), (("x", ((A, 1),)),)), (ABC, ())):
            for thing in no_requests():
                with self.subTest(library=library, thing=thing):
                    with self.assertRaises(BadRequest) as context:
                        is_additive_above(library, thing)
                    self.assertIs(context.exception.value, thing)
        for thing in other_things() + [("a",), [], "a"]:
            with self.subTest(thing=thing):
                with self.assertRaises(BadRequest) as context:
                    is_additive_above(((), ()), thing)
                self.assertIs(context.exception.value, thing)


class BreakingPair(unittest.TestCase):
    def check(self, library, answer):
        with self.subTest(library=library):
            found = breaking_pair(library)
            self.assertEqual(found, answer)
            self.assertIs(type(found), type(answer))

    def test_ties(self):
        self.check((ABC, (("x", gone_with("c")), ("y", gone_with("b")))), ((), "b", "y"))
        self.check((ABC, (("x", gone_with("b")), ("y", gone_with("b")))), ((), "b", "x"))
        self.check((ABC, (("x", gone_with("b", "c")), ("y", gone_with("a", "c")))), (("a",), "c", "y"))
        self.check((ABC, (("x", gone_with("b", "c")), ("y", gone_with("b", "c")))), (("b",), "c", "x"))
        self.check((ABC, (("x", gone_with("a", "b", "c")),)), (("a", "b"), "c", "x"))

    def test_fewest_features_before_the_least_triple(self):
        # ("a", "b") is less than ("c",), but it has more features.
        items = (("x", gone_with("a", "b", "d")), ("y", gone_with("c", "d")))
        self.check((without_implied(("a", "b", "c", "d")), items), (("c",), "d", "y"))

    def test_requests_that_are_not_closed_are_smaller(self):
        # At the closed requests two features would be needed.
        library = (chain_down(("a", "b", "c")), (("x", ((("all", B, ("not", C)), 1),)),))
        self.check(library, (("b",), "c", "x"))
        self.check((ring(("a", "b")) + (("c", ()),), (("x", ((("all", A, B, ("not", C)), 1),)),)), (("a",), "c", "x"))

    def test_the_feature_with_what_it_implies(self):
        self.check((chain_up(("a", "b", "c")), (("x", gone_with("c")),)), ((), "a", "x"))

    def test_none_for_additive_libraries(self):
        self.check(((), ()), None)
        self.check((ABC, (("x", ((A, 1), (B, 1))), ("y", ((ALWAYS, 2),)), ("z", ((NEVER, 3),)))), None)
        for library in small_libraries():
            if is_additive(library):
                self.check(library, None)

    def test_against_all_triples(self):
        sizes = set()
        for library in small_libraries() + libraries_of_all_sizes(15) + libraries_with_ties():
            triples = pairs_by_trying(Answers(library))
            answer = min(triples, key=lambda triple: (len(triple[0]), triple), default=None)
            self.check(library, answer)
            sizes.add(len(answer[0]) if answer else None)
        self.assertTrue({None, 0, 1, 2, 3} <= sizes)

    def test_the_user_loses_the_item(self):
        for library in small_libraries() + libraries_of_all_sizes(17)[:30]:
            found = breaking_pair(library)
            if found is not None:
                request, feature, item = found
                users = (("p", request, (item,)), ("q", (feature,), ()))
                self.assertEqual(losses(library, users), (("p", item),))


class SafeFeatures(unittest.TestCase):
    def check(self, library, answer):
        with self.subTest(library=library):
            found = safe_features(library)
            self.assertEqual(found, answer)
            self.assertIs(type(found), tuple)

    def test_all_and_none(self):
        self.check(((), ()), ())
        self.check((ABC, ()), ("a", "b", "c"))
        self.check((ABC, (("x", ((A, 1),)),)), ("a", "b", "c"))
        self.check((ABC, (("x", gone_with("b")),)), ("a", "c"))
        self.check((ABC, (("x", gone_with("a", "c")),)), ("b",))
        self.check((ABC, (("x", gone_with("a", "b", "c")),)), ())

    def test_features_that_imply_unsafe_ones(self):
        self.check((chain_up(("a", "b", "c")), (("x", gone_with("b")),)), ("c",))
        self.check((chain_down(("a", "b", "c")), (("x", gone_with("b")),)), ("a",))
        self.check((ring(("a", "b")) + (("c", ()),), (("x", gone_with("b")),)), ("c",))

    def test_a_feature_that_implies_an_unsafe_one_may_be_safe(self):
        # b alone breaks x; a, which implies b, brings it back.
        library = ((("a", ("b",)), ("b", ())), (("x", ((("any", A, ("not", B)), 1),)),))
        self.check(library, ("a",))

    def test_small_libraries_and_all_sizes(self):
        for library in small_libraries() + libraries_of_all_sizes(18):
            answers = Answers(library)
            unsafe = {feature for closed, feature, item in answers.breaking_steps()}
            self.check(library, tuple(feature for feature in answers.features if feature not in unsafe))


class Guarantees(unittest.TestCase):
    def test_a_greater_request_is_additive_above_too(self):
        seen = 0
        for library in small_libraries() + libraries_of_all_sizes(19)[:24]:
            requests = Answers(library).requests
            good = {request for request in requests if is_additive_above(library, request)}
            for less, more in itertools.product(good, requests):
                if contains(more, less):
                    self.assertIn(more, good, (library, less))
                    seen += less != () and less != more
        self.assertGreater(seen, 500)


class GeneralRules(unittest.TestCase):
    def test_arguments_by_name(self):
        for library in small_libraries()[::9] + [STD]:
            for function in (breaking_steps, is_additive, breaking_pair, safe_features):
                self.assertEqual(function(library=library), function(library))
            for request in Answers(library).requests:
                answer = is_additive_above(library, request)
                self.assertIs(is_additive_above(request=request, library=library), answer)
                self.assertIs(is_additive_above(library, request=request), answer)
        for thing in (("x",), ["std"], None):
            with self.assertRaises(BadRequest) as context:
                is_additive_above(request=thing, library=STD)
            self.assertIs(context.exception.value, thing)

    def test_no_argument_is_changed(self):
        def made():
            return builtin_things() + [["b", "a"], {"b": ["a"]}, (["b", "a"],), ["std", "alloc"]]

        things = made()
        for thing in things:
            with self.assertRaises(BadRequest):
                is_additive_above(STD, thing)
        self.assertEqual(things, made())

    def test_no_iterator_is_used_up(self):
        names = iter(["alloc", "std"])
        for thing in (names, (names,), ("alloc", names)):
            with self.assertRaises(BadRequest):
                is_additive_above(STD, thing)
        self.assertEqual(list(names), ["alloc", "std"])

    def test_equal_calls_return_equal_results(self):
        libraries = small_libraries()[::7]

        def answers(rows):
            return {library: (breaking_steps(library), is_additive(library), breaking_pair(library),
                              safe_features(library), is_additive_above(library, ())) for library in rows}

        first = answers(libraries)
        self.assertEqual(answers(libraries[::-1]), first)
        self.assertEqual(answers(libraries), first)

    def test_a_call_that_raises_changes_nothing(self):
        before = (breaking_steps(STD), is_additive_above(STD, ("std",)))
        for thing in (("x",), ("std", "alloc"), ["std"], None):
            with self.assertRaises(BadRequest):
                is_additive_above(STD, thing)
        self.assertEqual((breaking_steps(STD), is_additive_above(STD, ("std",))), before)

    def test_somewhat_beyond_the_limits_no_error_is_raised(self):
        source = random.Random(20)
        nine = EIGHT + ("i",)
        for manifest in (without_implied(nine), ring(nine), chain_down(nine)):
            library = random_library(source, manifest, TWELVE_ITEMS + ("zzzzzzzzz",))
            for function in (breaking_steps, is_additive, breaking_pair, safe_features):
                function(library)
            is_additive_above(library, ("a", "i"))


if __name__ == "__main__":
    unittest.main()
