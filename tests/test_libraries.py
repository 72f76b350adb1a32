import itertools
import random
import unittest

from featureunion.errors import BadRequest
from featureunion.libraries import is_library, lost, version_at, versions, view
from support import (
    Answers, EIGHT, TWELVE_ITEMS, all_subsets, builtin_things, chain_down, chain_up, deep_things,
    libraries_of_all_sizes, no_requests, other_things, random_library, ring, small_libraries, with_one_list,
    with_one_other, without_implied, wrapped,
)

A, B, C = ("feature", "a"), ("feature", "b"), ("feature", "c")
ALWAYS, NEVER = ("all",), ("any",)
STD_MANIFEST = (("alloc", ()), ("nostd", ()), ("std", ("alloc",)))
STD_FEATURE, ALLOC = ("feature", "std"), ("feature", "alloc")
STD = (STD_MANIFEST, (
    ("lock", ((STD_FEATURE, 2), (ALLOC, 1))), ("panic", ((("not", STD_FEATURE), 1),)), ("vec", ((ALLOC, 1),))))
ABC = without_implied(("a", "b", "c"))
ROWS = ((ALWAYS, 1),)
# The ring of a, b and c leads to d; e leads into the ring; f stands alone.
MIXED = (("a", ("b", "d")), ("b", ("c",)), ("c", ("a",)), ("d", ()), ("e", ("b",)), ("f", ()))


def with_items(*items):
    return (ABC, items)


def with_rows(*rows):
    return (ABC, (("x", rows),))


def with_formula(formula):
    return with_rows((formula, 1))


def with_version(version):
    return with_rows((A, version))


def no_items():
    """Things that are no items of a library with the items lock and x, of any kind."""
    return other_things() + deep_things(30) + [
        "y", "", "a", "loc", "lockx", "Lock", "lock ", "LOCK", "x ", "xx", b"x", b"lock", ("x",), ["x"], {"x"},
        {"x": 1}, ("x", 1), (("x", ROWS),), ("lock", "x"), None, 0, True, (),
    ]


class Examples(unittest.TestCase):
    def setUp(self):
        manifest = (('alloc', ()), ('nostd', ()), ('std', ('alloc',)))
        std, alloc = ('feature', 'std'), ('feature', 'alloc')
        self.library = (manifest, (
            ('lock', ((std, 2), (alloc, 1))), ('panic', ((('not', std), 1),)), ('vec', ((alloc, 1),))))

    def test_point_9(self):
        library = self.library
        self.assertEqual(
            (view(library, ('std',)), view(library, ()), version_at(library, ('alloc',), 'lock')),
            ((('lock', 2), ('vec', 1)), (('panic', 1),), 1))

    def test_point_10(self):
        library = self.library
        self.assertEqual(
            (versions(library, 'lock'), lost(library, ('alloc',), ('std',))),
            ((1, 2), (('lock', 1), ('panic', 1))))


class Libraries(unittest.TestCase):
    def check(self, thing, answer):
        with self.subTest(thing=thing):
            self.assertIs(is_library(thing), answer)

    def test_libraries(self):
        for library in small_libraries() + libraries_of_all_sizes(1) + [STD, ((), ()), (ABC, ()), (MIXED, ())]:
            self.check(library, True)

    def test_number_of_items(self):
        self.assertEqual(len(TWELVE_ITEMS), 12)
        for many in range(13):
            self.check(with_items(*((name, ROWS) for name in TWELVE_ITEMS[:many])), True)
        for more in ("bb", "d", "w"):
            self.check(with_items(*((name, ROWS) for name in sorted(TWELVE_ITEMS + (more,)))), False)
        for many in range(27):
            letters = "abcdefghijklmnopqrstuvwxyz"[:many]
            self.check(with_items(*((letter, ROWS) for letter in letters)), many <= 12)

    def test_items_out_of_order(self):
        for names in (("b", "a"), ("a", "c", "b"), ("b", "a", "c"), ("ab", "aa"), ("aa", "a"), ("b", "aa")):
            self.check(with_items(*((name, ROWS) for name in names)), False)
            self.check(with_items(*((name, ROWS) for name in sorted(names))), True)
        self.check(with_items(*((name, ROWS) for name in TWELVE_ITEMS[::-1])), False)

    def test_an_item_twice(self):
        for names in (("a", "a"), ("a", "b", "b"), ("a", "a", "b"), ("a", "b", "a")):
            self.check(with_items(*((name, ROWS) for name in names)), False)
        self.check(with_items(("a", ((A, 1),)), ("a", ((B, 2),))), False)

    def test_items_that_are_no_names(self):
        for thing in other_things() + ["", "A", "a1", " a", "a ", "a\n", "abcdefghi", ("a",), ["a"], A]:
            self.check(with_items((thing, ROWS)), False)
            self.check(with_items(("a", ROWS), (thing, ROWS)), False)
            self.check(with_items((thing, ROWS), ("zzz", ROWS)), False)
        for name in ("a", "z", "abcdefgh", "all", "any", "feature", "item", "not"):
            self.check(with_items((name, ROWS)), True)

    def test_number_of_rows(self):
        for many in range(10):
            self.check(with_rows(*((A, 1),) * many), 1 <= many <= 6)
            self.check(with_rows(*((A, at) for at in range(many))), 1 <= many <= 6)
            self.check(with_items(("a", ROWS), ("b", ((C, 3),) * many), ("c", ROWS)), 1 <= many <= 6)

    def test_versions(self):
        for version in range(-3, 103):
            self.check(with_version(version), 0 <= version <= 99)
        for thing in (True, False, 10 ** 30, -10 ** 30, "1", "", b"1", None, (), (1,), [1], {1}, {1: 1}, "one", int):
            self.check(with_version(thing), False)
            self.check(with_rows((A, 1), (B, thing)), False)
            self.check(with_rows((A, thing), (B, 1)), False)
        for thing in other_things():
            if not isinstance(thing, int):
                self.check(with_version(thing), False)

    def test_features_that_the_manifest_has_not(self):
        for name in ("d", "aa", "x", "abcdefgh", "all"):
            other = ("feature", name)
            for made in (other, ("not", other), ("all", A, other), ("any", other, A),
                         ("all", B, ("not", ("any", other))), wrapped(other, 9, lambda inner: ("not", inner))):
                self.check(with_formula(made), False)
                self.check(with_rows((A, 1), (made, 1)), False)
                self.check(with_rows((made, 1), (A, 1)), False)
                self.check((without_implied(tuple(sorted(("a", "b", name)))), (("x", ((made, 1),)),)), True)
        self.check(((), (("x", ((A, 1),)),)), False)
        self.check(((), (("x", ((ALWAYS, 1), (("not", NEVER), 0))),)), True)
        self.check(((("b", ()),), (("x", ((A, 1),)),)), False)

    def test_formulas_that_are_none(self):
        parts = ["a", "feature", (), ("feature",), ("feature", "A"), ("feature", "a", "b"), ("not",), ("not", A, B),
                 ("and", A, B), ("all", "a"), ("any", A, ()), ("all", (A, B)), (A,), (A, B), ["feature", "a"],
                 ("not", ["feature", "a"]), ("feature", ["a"]), None, True, 1]
        for thing in parts + other_things():
            self.check(with_formula(thing), False)
            self.check(with_formula(("not", thing)), False)
            self.check(with_rows((A, 1), (thing, 1)), False)

    def test_limits_of_formulas(self):
        for times in (8, 9, 10, 28):
            self.check(with_formula(wrapped(A, times, lambda inner: ("not", inner))), times + 1 <= 10)
        for many in (398, 399, 400):
            self.check(with_formula(("any",) + (A,) * many), many + 1 <= 400)
        large = ("any",) + (A,) * 399
        self.check(with_rows(*((large, 1),) * 6), True)

    def test_manifests_that_are_none(self):
        for manifest in (without_implied(EIGHT + ("i",)), (("b", ()), ("a", ())), (("a", ()), ("a", ())),
                         (("a", ("a",)),), (("a", ("b",)),), ("a", ()), ("a",), (("a",),), "", {}, [], None,
                         [("a", ())], {"a": ()}):
            self.check((manifest, ()), False)
            self.check((manifest, (("x", ROWS),)), False)
        for thing in other_things():
            self.check((thing, ()), False)
            self.check((thing, (("x", ROWS),)), False)
        for manifest in (without_implied(EIGHT), ring(EIGHT), chain_up(EIGHT), MIXED):
            self.check((manifest, (("x", ((A, 1),)),)), True)

    def test_lists_in_the_place_of_tuples_at_any_depth(self):
        library = (MIXED, (("x", ((("all", A, ("not", ("any", B, ("all", C)))), 1), (A, 0))), ("y", ROWS)))
        self.check(library, True)
        things = with_one_list(library) + with_one_list(STD)
        self.assertGreater(len(things), 40)
        for thing in things + [[], [(), ()], [[], []], ([], ()), ((), [])]:
            self.check(thing, False)

    def test_anything_in_the_place_of_a_part_at_any_depth(self):
        library = (chain_up(("a", "b")), (("x", ((("not", ("all", A, B)), 1), (A, 0))), ("y", ROWS)))
        self.check(library, True)
        for other in other_things():
            if not isinstance(other, int):
                for thing in with_one_other(library, other):
                    self.check(thing, False)
        for other in (True, False, -1, 100, 10 ** 30):
            for thing in with_one_other(library, other):
                self.check(thing, False)

    def test_pairs_that_are_no_pairs(self):
        for thing in ((), (ABC,), (ABC, (), ()), (ABC, (), None), ABC, (ABC, None), (None, ()), (ABC, "x"),
                      (ABC, ("x",)), (ABC, ("x", ROWS)), {"a": ()}, {ABC: ()}, "ab", "", None, 2):
            self.check(thing, False)
        for pair in ((), ("x",), ("x", ROWS, ROWS), ("x", ROWS, ()), ("x", ()), ("x", "rows"), "x", "xy", None, 1,
                     (ROWS, "x"), {"x": ROWS}, {"x", "y"}, ("x", (A, 1)), ("x", ROWS[0]), ("x", (ROWS,)), ("x", {}),
                     ("x", None), ("x", "")):
            self.check(with_items(pair), False)
            self.check(with_items(("a", ROWS), pair), False)
            self.check(with_items(pair, ("z", ROWS)), False)
        for row in ((), (A,), (A, 1, 1), (A, 1, None), (1, A), (A, A), (1, 1), A, "a1", "ab", None, 1, {A: 1}, [A, 1]):
            self.check(with_rows(row), False)
            self.check(with_rows((A, 1), row), False)
            self.check(with_rows(row, (A, 1)), False)

    def test_anything(self):
        for thing in other_things() + [A, ABC, STD_MANIFEST, "a", ("a",), ("a", "b"), ((), (), ())]:
            self.check(thing, False)
            self.check((thing,), False)
            self.check((thing, thing), False)
            self.check((ABC, thing), False)
        for depth in range(2, 31):
            for thing in deep_things(depth):
                self.check(thing, False)
        for thing in deep_things(24):
            self.check(with_items(("x", thing)), False)
            self.check(with_formula(thing), False)
            self.check(with_version(thing), False)


class Views(unittest.TestCase):
    def check(self, library, request, answer):
        with self.subTest(library=library, request=request):
            found = view(library, request)
            self.assertEqual(found, answer)
            self.assertIs(type(found), tuple)
            self.assertEqual({type(pair) for pair in found} - {tuple}, set())
            seen = dict(answer)
            for item, rows in library[1]:
                version = version_at(library, request, item)
                self.assertEqual(version, seen.get(item))
                self.assertIsNot(type(version), bool)

    def test_request_that_is_not_closed(self):
        self.check(STD, ("std",), (("lock", 2), ("vec", 1)))
        self.check(STD, ("nostd", "std"), (("lock", 2), ("vec", 1)))
        library = (chain_up(("a", "b", "c")), (("x", ((C, 3), (B, 2), (A, 1))), ("y", ((("all", A, ("not", C)), 1),))))
        for request in (("a",), ("b",), ("c",), ("a", "b"), ("a", "c"), ("b", "c"), ("a", "b", "c")):
            self.check(library, request, (("x", 3),))
        self.check(library, (), ())

    def test_closed_empty_and_whole(self):
        self.check(STD, (), (("panic", 1),))
        self.check(STD, ("alloc",), (("lock", 1), ("panic", 1), ("vec", 1)))
        self.check(STD, ("nostd",), (("panic", 1),))
        self.check(STD, ("alloc", "nostd"), (("lock", 1), ("panic", 1), ("vec", 1)))
        self.check(STD, ("alloc", "std"), (("lock", 2), ("vec", 1)))
        self.check(STD, ("alloc", "nostd", "std"), (("lock", 2), ("vec", 1)))

    def test_rings(self):
        items = (("x", ((("all", A, B, C), 5), (("any", A, B, C), 6), (ALWAYS, 7))), ("y", ((("feature", "d"), 0),)))
        for request, answer in (
                (("a",), (("x", 5), ("y", 0))), (("b",), (("x", 5), ("y", 0))), (("c", "f"), (("x", 5), ("y", 0))),
                (("e",), (("x", 5), ("y", 0))), (("d",), (("x", 7), ("y", 0))), (("f",), (("x", 7),)),
                ((), (("x", 7),))):
            self.check((MIXED, items), request, answer)
        for size in range(3, 9):
            names = EIGHT[:size]
            for name in names:
                self.check((ring(names), items[:1]), (name,), (("x", 5),))

    def test_first_row_that_holds_decides(self):
        rows = ((NEVER, 9), (("all", A, B), 4), (A, 3), (B, 2), (("not", C), 1), (ALWAYS, 0))
        library = (ABC, (("x", rows),))
        for request, version in (
                ((), 1), (("a",), 3), (("b",), 2), (("c",), 0), (("a", "b"), 4), (("a", "c"), 3), (("b", "c"), 2),
                (("a", "b", "c"), 4)):
            self.check(library, request, (("x", version),))
        for order in itertools.permutations(rows[1:5], 4):
            library = (ABC, (("x", order),))
            answers = Answers(library)
            for request in answers.requests:
                self.check(library, request, answers.view(request))

    def test_version_zero_is_a_version(self):
        library = (ABC, (("x", ((A, 0), (ALWAYS, 1))), ("y", ((A, 0),))))
        self.check(library, ("a",), (("x", 0), ("y", 0)))
        self.check(library, (), (("x", 1),))

    def test_formulas_without_features(self):
        library = ((), (("u", ((NEVER, 1),)), ("v", ((ALWAYS, 2),)), ("w", ((NEVER, 3), (("not", NEVER), 4)))))
        self.check(library, (), (("v", 2), ("w", 4)))

    def test_without_items(self):
        self.check(((), ()), (), ())
        for request in all_subsets(EIGHT)[::17]:
            self.check((ring(EIGHT), ()), request, ())

    def test_every_request_of_small_libraries(self):
        for library in small_libraries():
            answers = Answers(library)
            for request in answers.requests:
                self.check(library, request, answers.view(request))

    def test_libraries_of_all_sizes(self):
        for library in libraries_of_all_sizes(2):
            answers = Answers(library)
            for request in answers.requests[::3] + answers.requests[-1:]:
                self.check(library, request, answers.view(request))

    def test_absent_and_no_item(self):
        library = (ABC, (("lock", ((A, 1),)), ("x", ((("not", A), 2),))))
        for request in all_subsets(("a", "b", "c")):
            self.assertEqual(version_at(library, request, "lock"), 1 if "a" in request else None)
            self.assertEqual(version_at(library, request, "x"), None if "a" in request else 2)
        for thing in no_items():
            for request in ((), ("a",), ("a", "b", "c")):
                with self.subTest(thing=thing, request=request):
                    self.assertIsNone(version_at(library, request, thing))
                    self.assertIsNone(version_at((ABC, ()), request, thing))

    def test_features_are_no_items(self):
        for name in ("alloc", "nostd", "std"):
            self.assertIsNone(version_at(STD, ("alloc", "nostd", "std"), name))

    def test_bad_request(self):
        items = (("lock", ((A, 1),)), ("x", ROWS))
        for library in ((ABC, items), (ring(("a", "b", "c")), items), (ABC, ())):
            for thing in no_requests():
                calls = [lambda: view(library, thing)]
                calls += [lambda item=item: version_at(library, thing, item) for item in ("x", "y", None, ["x"])]
                for call in calls:
                    with self.subTest(library=library, thing=thing):
                        with self.assertRaises(BadRequest) as context:
                            call()
                        self.assertIs(context.exception.value, thing)

    def test_bad_request_without_features(self):
        for thing in other_things() + [("a",), [], "a"]:
            for call in (lambda: view(((), ()), thing), lambda: version_at(((), (("x", ROWS),)), thing, "x")):
                with self.subTest(thing=thing):
                    with self.assertRaises(BadRequest) as context:
                        call()
                    self.assertIs(context.exception.value, thing)


class Versions(unittest.TestCase):
    def check(self, library, item, answer):
        with self.subTest(library=library, item=item):
            found = versions(library, item)
            self.assertEqual(found, answer)
            self.assertIs(type(found), tuple)

    def test_never_seen(self):
        for formula in (NEVER, ("not", ALWAYS), ("all", A, ("not", A)), ("all", NEVER, A)):
            self.check((ABC, (("x", ((formula, 1),)),)), "x", ())
        # Only at requests that are not closed.
        self.check((chain_up(("a", "b")), (("x", ((("all", A, ("not", B)), 1),)),)), "x", ())
        self.check((ring(("a", "b")), (("x", ((("all", ("any", A, B), ("not", ("all", A, B))), 1),)),)), "x", ())

    def test_one_version(self):
        for formula in (ALWAYS, A, ("not", A), ("all", A, B, C), ("not", ("any", A, B, C))):
            self.check((ABC, (("x", ((formula, 7),)),)), "x", (7,))
            self.check((ABC, (("x", ((formula, 0),)),)), "x", (0,))
        self.check((ABC, (("x", ((A, 7), (B, 7), (ALWAYS, 7))),)), "x", (7,))
        # The rows behind the first are never reached.
        self.check((ABC, (("x", ((ALWAYS, 3), (A, 1), (B, 2))),)), "x", (3,))
        self.check((chain_up(("a", "b")), (("x", ((B, 3), (A, 1))),)), "x", (3,))

    def test_several_versions_ascending(self):
        self.check((ABC, (("x", ((A, 9), (B, 10), (C, 0), (ALWAYS, 5))),)), "x", (0, 5, 9, 10))
        self.check((ABC, (("x", ((A, 2), (B, 1), (C, 2), (ALWAYS, 1))),)), "x", (1, 2))
        self.check(STD, "lock", (1, 2))
        self.check(STD, "panic", (1,))
        self.check((ABC, (("x", tuple((formula, 99 - at) for at, formula in enumerate((
            ("all", A, B), ("all", A, C), A, B, C, ALWAYS)))),)), "x", (94, 95, 96, 97, 98, 99))

    def test_of_other_items(self):
        library = (ABC, (("x", ((A, 1),)), ("y", ((B, 2), (A, 3)))))
        self.check(library, "x", (1,))
        self.check(library, "y", (2, 3))

    def test_of_anything(self):
        library = (ABC, (("lock", ((A, 1),)), ("x", ((ALWAYS, 2),))))
        for thing in no_items():
            self.check(library, thing, ())
            self.check((ABC, ()), thing, ())
        for name in ("alloc", "nostd", "std"):
            self.check(STD, name, ())

    def test_small_libraries_and_all_sizes(self):
        sizes = set()
        for library in small_libraries() + libraries_of_all_sizes(3):
            answers = Answers(library)
            for item, rows in library[1]:
                seen = {version for pairs in answers.views.values() for name, version in pairs if name == item}
                self.check(library, item, tuple(sorted(seen)))
                sizes.add(len(seen))
        self.assertTrue({0, 1, 2, 3} <= sizes)


class Lost(unittest.TestCase):
    def check(self, library, request, more, answer):
        with self.subTest(library=library, request=request, more=more):
            found = lost(library, request, more)
            self.assertEqual(found, answer)
            self.assertIs(type(found), tuple)

    def test_gone_or_with_another_version(self):
        self.check(STD, ("alloc",), ("std",), (("lock", 1), ("panic", 1)))
        self.check(STD, (), ("std",), (("panic", 1),))
        self.check(STD, (), ("alloc",), ())
        self.check(STD, ("std",), (), ())
        self.check(STD, ("std",), ("alloc", "nostd"), ())
        self.check(STD, ("nostd",), ("nostd", "std"), (("panic", 1),))

    def test_both_requests_together(self):
        library = (ABC, (("x", ((("not", ("all", A, B)), 1),)),))
        self.check(library, ("a",), ("b",), (("x", 1),))
        self.check(library, ("b",), ("a",), (("x", 1),))
        self.check(library, (), ("a",), ())
        self.check(library, ("a", "c"), ("a", "c"), ())
        self.check(library, ("a", "b"), ("c",), ())
        implied = (chain_up(("a", "b")), (("x", ((("not", B), 1),)),))
        self.check(implied, (), ("a",), (("x", 1),))
        self.check(implied, ("a",), ("b",), ())

    def test_every_pair_of_requests(self):
        for library in small_libraries():
            answers = Answers(library)
            for request, more in itertools.product(answers.requests, repeat=2):
                self.check(library, request, more, answers.lost(request, more))

    def test_libraries_of_all_sizes(self):
        source = random.Random(4)
        found = 0
        for library in libraries_of_all_sizes(4):
            answers = Answers(library)
            for at in range(25):
                request, more = source.choice(answers.requests), source.choice(answers.requests)
                self.check(library, request, more, answers.lost(request, more))
                found += len(answers.lost(request, more)) > 1
        self.assertGreater(found, 20)

    def test_bad_request_of_each(self):
        library = (ABC, (("x", ROWS), ("y", ((("not", B), 1),))))
        for thing in no_requests():
            for good in ((), ("b",), ("a", "b", "c")):
                for arguments in ((thing, good), (good, thing)):
                    with self.subTest(arguments=arguments):
                        with self.assertRaises(BadRequest) as context:
                            lost(library, *arguments)
                        self.assertIs(context.exception.value, thing)

    def test_bad_request_before_bad_more(self):
        library = (ABC, (("x", ROWS),))
        things = no_requests()
        for thing, other in zip(things, things[7:] + things[:7]):
            for first, second in ((thing, other), (other, thing)):
                with self.subTest(first=first, second=second):
                    with self.assertRaises(BadRequest) as context:
                        lost(library, first, second)
                    self.assertIs(context.exception.value, first)
        one, same = ["a"], ["a"]
        with self.assertRaises(BadRequest) as context:
            lost(library, one, same)
        self.assertIs(context.exception.value, one)

    def test_bad_request_without_features(self):
        for thing in other_things() + [("a",), [], "a"]:
            for arguments in ((thing, ()), ((), thing)):
                with self.subTest(arguments=arguments):
                    with self.assertRaises(BadRequest) as context:
                        lost(((), ()), *arguments)
                    self.assertIs(context.exception.value, thing)


class GeneralRules(unittest.TestCase):
    def test_arguments_by_name(self):
        for library in small_libraries()[::9] + [STD]:
            self.assertIs(is_library(thing=library), True)
            requests = Answers(library).requests
            for item in ("x", "lock", "none", None):
                self.assertEqual(versions(item=item, library=library), versions(library, item))
            for request in requests:
                self.assertEqual(view(request=request, library=library), view(library, request))
                self.assertEqual(view(library, request=request), view(library, request))
                for item in ("x", "lock", "none", None):
                    self.assertEqual(version_at(item=item, request=request, library=library),
                                     version_at(library, request, item))
                for more in requests:
                    self.assertEqual(lost(more=more, request=request, library=library), lost(library, request, more))
        for thing in (("x",), ["std"], None):
            self.assertIs(is_library(thing=thing), False)
            for call in (lambda: view(request=thing, library=STD), lambda: lost(more=["a"], request=thing, library=STD),
                         lambda: lost(more=thing, library=STD, request=("std",)),
                         lambda: version_at(item="lock", request=thing, library=STD)):
                with self.assertRaises(BadRequest) as context:
                    call()
                self.assertIs(context.exception.value, thing)

    def test_no_argument_is_changed(self):
        def made():
            return builtin_things() + with_one_list(STD) + [["b", "a"], {"b": ["a"]}, (["b", "a"],), ["std", "alloc"]]

        things = made()
        for thing in things:
            is_library(thing)
            for whole in with_one_other(STD[1][:1], thing):
                is_library((STD_MANIFEST, whole))
            version_at(STD, ("std",), thing)
            versions(STD, thing)
            for call in (lambda: view(STD, thing), lambda: lost(STD, thing, ()), lambda: lost(STD, (), thing),
                         lambda: version_at(STD, thing, "lock")):
                with self.assertRaises(BadRequest):
                    call()
        self.assertEqual(things, made())

    def test_no_iterator_is_used_up(self):
        names = iter(["alloc", "std"])
        for thing in (names, (names,), ("alloc", names)):
            for whole in with_one_other(STD, thing):
                is_library(whole)
            version_at(STD, (), thing)
            versions(STD, thing)
            for call in (lambda: view(STD, thing), lambda: lost(STD, thing, ()), lambda: lost(STD, (), thing)):
                with self.assertRaises(BadRequest):
                    call()
        self.assertEqual(list(names), ["alloc", "std"])

    def test_equal_calls_return_equal_results(self):
        libraries = small_libraries()[::7]

        def answers(rows):
            found = {}
            for library in rows:
                requests = all_subsets(tuple(feature for feature, implied in library[0]))
                found[library] = (
                    is_library(library), [versions(library, item) for item, _ in library[1]],
                    [(view(library, request), version_at(library, request, "x")) for request in requests],
                    [lost(library, request, more) for request in requests for more in requests])
            return found

        first = answers(libraries)
        self.assertEqual(answers(libraries[::-1]), first)
        self.assertEqual(answers(libraries), first)

    def test_a_call_that_raises_changes_nothing(self):
        def answers():
            return (view(STD, ("std",)), versions(STD, "lock"), lost(STD, ("alloc",), ("std",)))

        before = answers()
        for thing in (("x",), ("std", "alloc"), ["std"], None):
            for call in (lambda: view(STD, thing), lambda: lost(STD, thing, ()), lambda: lost(STD, (), thing)):
                with self.assertRaises(BadRequest):
                    call()
        self.assertEqual(answers(), before)

    def test_somewhat_beyond_the_limits_no_error_is_raised(self):
        source = random.Random(5)
        nine = EIGHT + ("i",)
        thirteen = TWELVE_ITEMS + ("zzzzzzzzz",)
        for manifest in (without_implied(nine), ring(nine), chain_down(nine)):
            library = random_library(source, manifest, thirteen)
            self.assertIs(is_library(library), False)
            view(library, ("a", "i"))
            version_at(library, ("a", "i"), "zzzzzzzzz")
            versions(library, "zzzzzzzzz")
            lost(library, ("a",), ("i",))
        for library in (with_rows(*((A, at) for at in range(8))), with_version(100), with_version(-1),
                        with_formula(wrapped(A, 12, lambda inner: ("not", inner)))):
            view(library, ("a",))
            versions(library, "x")
            lost(library, ("a",), ("b",))


if __name__ == "__main__":
    unittest.main()
