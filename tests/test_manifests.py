import unittest

from featureunion.errors import BadRequest
from featureunion.manifests import closed_requests, closure, is_manifest, is_request, least_requests
from support import (
    EIGHT, all_subsets, builtin_things, chain_down, chain_up, chosen_manifests, closed_by_trying, closure_by_trying,
    deep_things, features_in, manifests_of, no_requests, other_things, ring, without_implied,
)

NINE = EIGHT + ("i",)
LONG = ("a", "aa", "ab", "b", "ba", "bb", "bbb", "zzzzzzzz")
STD = (("alloc", ()), ("nostd", ()), ("std", ("alloc",)))
# The ring of a, b and c leads to d; e leads into the ring; f stands alone.
MIXED = (("a", ("b", "d")), ("b", ("c",)), ("c", ("a",)), ("d", ()), ("e", ("b",)), ("f", ()))
TWO_RINGS = (("a", ("d",)), ("b", ("c",)), ("c", ("b",)), ("d", ("a",)))


def small_manifests():
    """All manifests of at most three features, and some of four to eight."""
    found = [()] + manifests_of(("a",)) + manifests_of(("a", "b")) + manifests_of(("a", "b", "c"))
    for size in (4, 5, 6):
        found += chosen_manifests(LONG[:size], 12, size)
    return found


def large_manifests():
    found = [chain_up(EIGHT), chain_down(EIGHT), ring(EIGHT), without_implied(EIGHT), without_implied(LONG)]
    return found + [ring(LONG), chain_up(LONG)] + chosen_manifests(EIGHT, 8, 9)


def least_by_trying(manifest, request):
    goal = closure_by_trying(manifest, request)
    same = [other for other in all_subsets(features_in(manifest)) if closure_by_trying(manifest, other) == goal]
    fewest = min(len(other) for other in same)
    return tuple(sorted(other for other in same if len(other) == fewest))


class Examples(unittest.TestCase):
    def test_point_7(self):
        manifest = (('a', ('b',)), ('b', ('c',)), ('c', ()), ('d', ('a',)))
        self.assertEqual((closure(manifest, ('a',)), closure(manifest, ())), (('a', 'b', 'c'), ()))

    def test_point_8(self):
        manifest = (('alloc', ()), ('nostd', ()), ('std', ('alloc',)))
        self.assertEqual(
            (closed_requests(manifest)[:4], least_requests(manifest, ('alloc', 'std'))),
            (((), ('alloc',), ('nostd',), ('alloc', 'nostd')), (('std',),)))


class Manifests(unittest.TestCase):
    def check(self, thing, answer):
        with self.subTest(thing=thing):
            self.assertIs(is_manifest(thing), answer)

    def test_manifests(self):
        for manifest in small_manifests() + large_manifests() + [STD, MIXED, TWO_RINGS]:
            self.check(manifest, True)

    def test_number_of_pairs(self):
        for size in range(10):
            for made in (without_implied, chain_up, chain_down):
                self.check(made(NINE[:size]), size <= 8)
        self.check(without_implied(tuple("abcdefghijklmnopqrstuvwxyz")), False)
        self.check(ring(NINE), False)

    def test_out_of_order(self):
        self.check((("b", ()), ("a", ())), False)
        self.check((("a", ()), ("c", ()), ("b", ())), False)
        self.check((("b", ()), ("a", ()), ("c", ())), False)
        self.check((("ab", ()), ("aa", ())), False)
        self.check((("aa", ()), ("a", ())), False)
        self.check((("a", ("b",)), ("c", ()), ("b", ())), False)
        self.check(without_implied(EIGHT[::-1]), False)
        # As Python sorts: not by the length of the names.
        self.check((("b", ()), ("aa", ())), False)
        self.check((("aa", ()), ("b", ())), True)

    def test_a_feature_twice(self):
        self.check((("a", ()), ("a", ())), False)
        self.check((("a", ()), ("b", ()), ("b", ())), False)
        self.check((("a", ("b",)), ("a", ()), ("b", ())), False)
        self.check((("a", ()), ("b", ()), ("a", ())), False)

    def test_features_that_are_no_names(self):
        for thing in other_things() + ["", "A", "a1", " a", "a ", "a\n", "abcdefghi", ("a",), ["a"]]:
            self.check(((thing, ()),), False)
            self.check((("a", ()), (thing, ())), False)
            self.check(((thing, ()), ("zzz", ())), False)

    def test_implied_out_of_order(self):
        self.check((("a", ("c", "b")), ("b", ()), ("c", ())), False)
        self.check((("a", ()), ("b", ("c", "a")), ("c", ())), False)
        self.check((("a", ()), ("b", ()), ("c", ("b", "a"))), False)
        self.check((("a", ("b", "d", "c")), ("b", ()), ("c", ()), ("d", ())), False)
        self.check((("a", ("b", "c", "d")), ("b", ()), ("c", ()), ("d", ())), True)

    def test_implied_twice(self):
        self.check((("a", ("b", "b")), ("b", ())), False)
        self.check((("a", ()), ("b", ("a", "a"))), False)
        self.check((("a", ("b", "c", "c")), ("b", ()), ("c", ())), False)

    def test_implied_unknown(self):
        self.check((("a", ("b",)),), False)
        self.check((("a", ("b", "c")), ("b", ())), False)
        self.check((("b", ("a",)), ("c", ())), False)
        self.check((("a", ()), ("b", ("a", "bb"))), False)
        self.check((("ab", ()), ("c", ("a",))), False)
        self.check((("a", ()), ("b", ("ab",))), False)

    def test_a_feature_implies_itself(self):
        self.check((("a", ("a",)),), False)
        self.check((("a", ("a", "b")), ("b", ())), False)
        self.check((("a", ()), ("b", ("a", "b"))), False)
        self.check((("a", ("b",)), ("b", ("b",))), False)

    def test_rings(self):
        self.check((("a", ("b",)), ("b", ("a",))), True)
        self.check((("a", ("b",)), ("b", ("c",)), ("c", ("a",))), True)
        self.check((("a", ("b", "c")), ("b", ("a", "c")), ("c", ("a", "b"))), True)
        self.check(ring(EIGHT), True)

    def test_implied_that_is_no_tuple_of_names(self):
        for thing in other_things() + ["b", "", "bc", b"b", ["b"], {"b": 1}, {"b"}, (("b",),), (["b"],), ("B",),
                                       ("b", None), (None, "b"), (1, "b"), ("b", ["c"])]:
            self.check((("a", thing), ("b", ()), ("c", ())), False)
            self.check((("a", ()), ("b", ()), ("c", thing)), False)

    def test_lists_in_the_place_of_tuples(self):
        self.check([], False)
        self.check([("a", ())], False)
        self.check((["a", ()],), False)
        self.check((("a", []),), False)
        self.check((("a", ["b"]), ("b", ())), False)
        self.check((("a", ("b",)), ["b", ()]), False)
        self.check((("a", ("b",)), ("b", [])), False)
        self.check([("a", ("b",)), ("b", ())], False)

    def test_pairs_that_are_no_pairs(self):
        for thing in ((), ("a",), ("a", (), ()), ("a", (), None), "a", "ab", "a()", None, 1, ("a", "b", "c"), ((), "a"),
                      (("a", ()),), ["a", ()], {"a": ()}, {"a", "b"}):
            self.check((thing,), False)
            self.check((thing, ("b", ())), False)
            self.check((("a", ()), thing), False)
        self.check(("a", ()), False)
        self.check(("a", "b"), False)

    def test_anything(self):
        for thing in other_things() + ["a", "ab", ("a",), ("a", "b"), ("feature", "a"), {"a": ()}, {"a": ("b",)}]:
            self.check(thing, False)
            self.check((thing,), False)
            self.check((("a", ()), thing), False)
        for thing in deep_things(30):
            self.check(thing, False)


class Requests(unittest.TestCase):
    def check(self, manifest, thing, answer):
        with self.subTest(manifest=manifest, thing=thing):
            self.assertIs(is_request(manifest, thing), answer)

    def test_every_ascending_tuple(self):
        for manifest in small_manifests() + large_manifests():
            for request in all_subsets(features_in(manifest)):
                self.check(manifest, request, True)

    def test_of_a_manifest_without_features(self):
        self.check((), (), True)
        self.check((), ("a",), False)

    def test_unknown_features(self):
        for request in all_subsets(("a", "b", "bb", "c", "z")):
            self.check(without_implied(("a", "b", "c")), request, set(request) <= {"a", "b", "c"})
        self.check(STD, ("std",), True)
        self.check(STD, ("stdx",), False)
        self.check(STD, ("st",), False)
        self.check(STD, ("alloc", "nostd", "std"), True)
        self.check(STD, ("alloc", "nostd", "std", "zzz"), False)

    def test_of_another_manifest(self):
        self.check((("a", ()), ("b", ())), ("a", "b"), True)
        self.check((("a", ()), ("c", ())), ("a", "b"), False)
        self.check((("b", ()),), ("a", "b"), False)

    def test_what_is_none(self):
        for manifest in manifests_of(("a", "b", "c"))[::7]:
            for thing in no_requests():
                self.check(manifest, thing, False)

    def test_anything_without_features(self):
        for thing in other_things() + ["a", ("a",), [], ["a"]]:
            self.check((), thing, False)


class Closures(unittest.TestCase):
    def check(self, manifest, request, answer):
        with self.subTest(manifest=manifest, request=request):
            found = closure(manifest, request)
            self.assertEqual(found, answer)
            self.assertIs(type(found), tuple)

    def test_chain_in_both_directions(self):
        for size in range(1, 9):
            names = EIGHT[:size]
            for at, name in enumerate(names):
                self.check(chain_up(names), (name,), names[at:])
                self.check(chain_down(names), (name,), names[:at + 1])
        self.check(chain_up(EIGHT), ("c", "f"), EIGHT[2:])
        self.check(chain_down(EIGHT), ("c", "f"), EIGHT[:6])

    def test_chain_in_no_direction(self):
        zigzag = (("a", ("d",)), ("b", ("e",)), ("c", ("b",)), ("d", ("c",)), ("e", ()))
        self.check(zigzag, ("a",), ("a", "b", "c", "d", "e"))
        self.check(zigzag, ("d",), ("b", "c", "d", "e"))
        self.check(zigzag, ("b",), ("b", "e"))
        self.check(zigzag, ("e",), ("e",))

    def test_rings(self):
        for size in range(2, 9):
            names = EIGHT[:size]
            for name in names:
                self.check(ring(names), (name,), names)
        self.check(MIXED, ("c",), ("a", "b", "c", "d"))
        self.check(MIXED, ("e",), ("a", "b", "c", "d", "e"))
        self.check(MIXED, ("d", "f"), ("d", "f"))
        self.check(TWO_RINGS, ("d",), ("a", "d"))
        self.check(TWO_RINGS, ("b",), ("b", "c"))

    def test_of_none_and_of_all(self):
        self.check((), (), ())
        for manifest in small_manifests() + large_manifests():
            self.check(manifest, (), ())
            self.check(manifest, features_in(manifest), features_in(manifest))

    def test_without_implied_features(self):
        for request in all_subsets(EIGHT):
            self.check(without_implied(EIGHT), request, request)

    def test_least_closed_request_that_contains_it(self):
        for manifest in small_manifests():
            for request in all_subsets(features_in(manifest)):
                self.check(manifest, request, closure_by_trying(manifest, request))

    def test_large_ones(self):
        for manifest in large_manifests():
            for request in all_subsets(features_in(manifest))[::9]:
                self.check(manifest, request, closure_by_trying(manifest, request))

    def test_bad_request(self):
        for manifest in (without_implied(("a", "b", "c")), ring(("a", "b", "c")), chain_up(("a", "b", "c"))):
            for thing in no_requests():
                with self.subTest(manifest=manifest, thing=thing):
                    with self.assertRaises(BadRequest) as context:
                        closure(manifest, thing)
                    self.assertIs(context.exception.value, thing)

    def test_bad_request_without_features(self):
        for thing in other_things() + [("a",), [], "a"]:
            with self.subTest(thing=thing):
                with self.assertRaises(BadRequest) as context:
                    closure((), thing)
                self.assertIs(context.exception.value, thing)


class ClosedRequests(unittest.TestCase):
    def check(self, manifest, answer):
        with self.subTest(manifest=manifest):
            found = closed_requests(manifest)
            self.assertEqual(found, answer)
            self.assertIs(type(found), tuple)
            self.assertEqual(len(set(found)), len(found))

    def test_none_to_eight_features(self):
        for size in range(9):
            names = EIGHT[:size]
            self.check(without_implied(names), tuple(all_subsets(names)))
            self.check(chain_up(names), tuple(names[size - many:] for many in range(size + 1)))
            self.check(chain_down(names), tuple(names[:many] for many in range(size + 1)))
            if size > 1:
                self.check(ring(names), ((), names))

    def test_by_number_then_ascending(self):
        self.check(STD, ((), ("alloc",), ("nostd",), ("alloc", "nostd"), ("alloc", "std"), ("alloc", "nostd", "std")))
        self.check(MIXED, (
            (), ("d",), ("f",), ("d", "f"), ("a", "b", "c", "d"), ("a", "b", "c", "d", "e"), ("a", "b", "c", "d", "f"),
            ("a", "b", "c", "d", "e", "f")))
        self.check(TWO_RINGS, ((), ("a", "d"), ("b", "c"), ("a", "b", "c", "d")))
        self.check(without_implied(("a", "aa", "b")), (
            (), ("a",), ("aa",), ("b",), ("a", "aa"), ("a", "b"), ("aa", "b"), ("a", "aa", "b")))
        self.check(without_implied(("aaa", "b")), ((), ("aaa",), ("b",), ("aaa", "b")))

    def test_small_and_large_ones(self):
        for manifest in small_manifests() + large_manifests():
            self.check(manifest, closed_by_trying(manifest))

    def test_they_are_the_closures(self):
        for manifest in small_manifests() + large_manifests()[::3]:
            found = {closure(manifest, request) for request in all_subsets(features_in(manifest))}
            self.assertEqual(set(closed_requests(manifest)), found)


class LeastRequests(unittest.TestCase):
    def check(self, manifest, request, answer):
        with self.subTest(manifest=manifest, request=request):
            found = least_requests(manifest, request)
            self.assertEqual(found, answer)
            self.assertIs(type(found), tuple)

    def test_one_is_smallest(self):
        self.check((), (), ((),))
        self.check(STD, (), ((),))
        self.check(STD, ("std",), (("std",),))
        self.check(STD, ("alloc", "nostd", "std"), (("nostd", "std"),))
        self.check(STD, ("alloc", "nostd"), (("alloc", "nostd"),))
        for size in range(1, 9):
            names = EIGHT[:size]
            self.check(chain_up(names), names, (names[:1],))
            self.check(chain_down(names), names, (names[-1:],))
            self.check(without_implied(names), names, (names,))

    def test_several_are_equally_small(self):
        for size in range(2, 9):
            names = EIGHT[:size]
            for request in (names, names[:1], names[-1:], names[:2]):
                self.check(ring(names), request, tuple((name,) for name in names))
        self.check(TWO_RINGS, ("a", "b", "c", "d"), (("a", "b"), ("a", "c"), ("b", "d"), ("c", "d")))
        self.check(TWO_RINGS, ("c", "d"), (("a", "b"), ("a", "c"), ("b", "d"), ("c", "d")))
        self.check(TWO_RINGS, ("b",), (("b",), ("c",)))
        self.check(MIXED, ("a", "d"), (("a",), ("b",), ("c",)))
        self.check(MIXED, ("b", "f"), (("a", "f"), ("b", "f"), ("c", "f")))
        self.check(MIXED, ("a", "e"), (("e",),))

    def test_of_none(self):
        for manifest in small_manifests() + large_manifests():
            self.check(manifest, (), ((),))

    def test_request_that_is_not_closed(self):
        self.check(chain_up(EIGHT), ("c", "f"), (("c",),))
        self.check(chain_down(EIGHT), ("c", "f"), (("f",),))
        self.check(without_implied(EIGHT), ("c", "f"), (("c", "f"),))

    def test_small_ones(self):
        for manifest in [()] + manifests_of(("a", "b")) + manifests_of(("a", "b", "c")):
            for request in all_subsets(features_in(manifest)):
                self.check(manifest, request, least_by_trying(manifest, request))
        for manifest in chosen_manifests(LONG[:5], 6, 10):
            for request in all_subsets(features_in(manifest))[::5]:
                self.check(manifest, request, least_by_trying(manifest, request))

    def test_large_ones_by_their_closures(self):
        for manifest in large_manifests():
            closures = {other: closure(manifest, other) for other in all_subsets(features_in(manifest))}
            for request in list(closures)[::37]:
                same = [other for other in closures if closures[other] == closures[request]]
                fewest = min(len(other) for other in same)
                self.check(manifest, request, tuple(sorted(other for other in same if len(other) == fewest)))

    def test_closure_of_each_is_that_of_the_request(self):
        for manifest in small_manifests():
            for request in all_subsets(features_in(manifest)):
                for least in least_requests(manifest, request):
                    self.assertIs(is_request(manifest, least), True)
                    self.assertEqual(closure(manifest, least), closure(manifest, request))

    def test_bad_request(self):
        for manifest in (without_implied(("a", "b", "c")), ring(("a", "b", "c")), chain_up(("a", "b", "c"))):
            for thing in no_requests():
                with self.subTest(manifest=manifest, thing=thing):
                    with self.assertRaises(BadRequest) as context:
                        least_requests(manifest, thing)
                    self.assertIs(context.exception.value, thing)

    def test_bad_request_without_features(self):
        for thing in other_things() + [("a",), [], "a"]:
            with self.subTest(thing=thing):
                with self.assertRaises(BadRequest) as context:
                    least_requests((), thing)
                self.assertIs(context.exception.value, thing)


class GeneralRules(unittest.TestCase):
    def test_arguments_by_name(self):
        for manifest in (STD, MIXED, TWO_RINGS, ()):
            self.assertIs(is_manifest(thing=manifest), True)
            self.assertEqual(closed_requests(manifest=manifest), closed_requests(manifest))
            for request in all_subsets(features_in(manifest)):
                self.assertIs(is_request(thing=request, manifest=manifest), True)
                self.assertEqual(closure(request=request, manifest=manifest), closure(manifest, request))
                self.assertEqual(closure(manifest, request=request), closure(manifest, request))
                self.assertEqual(least_requests(request=request, manifest=manifest), least_requests(manifest, request))
        for thing in (("x",), ["std"], None):
            self.assertIs(is_manifest(thing=thing), False)
            self.assertIs(is_request(thing=thing, manifest=STD), False)
            for function in (closure, least_requests):
                with self.assertRaises(BadRequest) as context:
                    function(request=thing, manifest=STD)
                self.assertIs(context.exception.value, thing)

    def test_no_argument_is_changed(self):
        things = builtin_things() + [["b", "a"], [("b", ()), ("a", ())], (["b", "a"],), {"b": ["a"]}]
        for thing in things:
            is_manifest(thing)
            is_manifest((("a", thing), ("b", ())))
            is_request(STD, thing)
            for function in (closure, least_requests):
                with self.assertRaises(BadRequest):
                    function(STD, thing)
        self.assertEqual(things, builtin_things() + [["b", "a"], [("b", ()), ("a", ())], (["b", "a"],), {"b": ["a"]}])

    def test_no_iterator_is_used_up(self):
        names = iter(["alloc", "std"])
        for thing in (names, (names,), ("alloc", names)):
            is_manifest(thing)
            is_manifest((("a", thing),))
            is_request(STD, thing)
            for function in (closure, least_requests):
                with self.assertRaises(BadRequest):
                    function(STD, thing)
        self.assertEqual(list(names), ["alloc", "std"])

    def test_equal_calls_return_equal_results(self):
        manifests = manifests_of(("a", "b", "c"))[::5]
        requests = all_subsets(("a", "b", "c"))

        def answers(rows):
            return {row: (closed_requests(row), [(closure(row, some), least_requests(row, some)) for some in requests])
                    for row in rows}

        first = answers(manifests)
        self.assertEqual(answers(manifests[::-1]), first)
        self.assertEqual(answers(manifests), first)

    def test_a_call_that_raises_changes_nothing(self):
        before = (closed_requests(MIXED), closure(MIXED, ("e",)), least_requests(MIXED, ("e",)))
        for thing in (("x",), ("e", "a"), ["e"], None):
            for function in (closure, least_requests):
                with self.assertRaises(BadRequest):
                    function(MIXED, thing)
        self.assertEqual((closed_requests(MIXED), closure(MIXED, ("e",)), least_requests(MIXED, ("e",))), before)

    def test_somewhat_beyond_the_limits_no_error_is_raised(self):
        for manifest in (without_implied(NINE), ring(NINE), chain_up(NINE)):
            self.assertIs(is_manifest(manifest), False)
            is_request(manifest, ("a", "i"))
            closure(manifest, ("a", "i"))
            closed_requests(manifest)
            least_requests(manifest, ("a", "i"))


if __name__ == "__main__":
    unittest.main()
