import random
import unittest

from featureunion.errors import NotAdditive, OtherManifest
from featureunion.libraries import view
from featureunion.manifests import closed_requests
from featureunion.steps import breaking_steps, is_additive
from featureunion.tables import grounds, same_views, table, taken
from support import (
    A, ABC, ALWAYS, Answers, B, C, EIGHT, NEVER, STD, TWELVE_ITEMS, additive_libraries, all_subsets, chain_down,
    chain_up, features_in, gone_with, grounds_by_trying, libraries_of_all_sizes, random_library, ring,
    small_libraries, without_implied, wrapped,
)

AB = without_implied(("a", "b"))


def written_otherwise(formula):
    """Another formula that holds for the same sets."""
    return ("any", NEVER, ("all", ("not", ("not", formula)), ALWAYS))


def library_written_otherwise(library):
    """A library with the same views: other formulas, and a row more that never holds where there is room for it."""
    def rows_written_otherwise(rows):
        return tuple((written_otherwise(formula), version) for formula, version in rows)

    return (library[0], tuple((item, rows_written_otherwise(rows) + ((NEVER, 5),) * (len(rows) < 6))
                              for item, rows in library[1]))


def taken_by_trying(one, other):
    """All pairs (closed request, item) of which the item is seen there otherwise, or no more, in their order."""
    return [(closed, item) for closed in one.closed for item, version in one.view(closed)
            if (item, version) not in other.view(closed)]


class Table(unittest.TestCase):
    def check(self, library, answer):
        with self.subTest(library=library):
            found = table(library)
            self.assertEqual(found, answer)
            self.assertEqual({type(part) for part in (found, *found)}, {tuple})

    def test_example(self):
        self.check(STD, (
            ((), (("panic", 1),)), (("alloc",), (("lock", 1), ("panic", 1), ("vec", 1))), (("nostd",), (("panic", 1),)),
            (("alloc", "nostd"), (("lock", 1), ("panic", 1), ("vec", 1))),
            (("alloc", "std"), (("lock", 2), ("vec", 1))), (("alloc", "nostd", "std"), (("lock", 2), ("vec", 1)))))

    def test_without_features_or_items(self):
        self.check(((), ()), (((), ()),))
        self.check(((), (("x", ((ALWAYS, 1),)),)), (((), (("x", 1),)),))
        self.check((AB, ()), (((), ()), (("a",), ()), (("b",), ()), (("a", "b"), ())))

    def test_only_closed_requests(self):
        self.check((chain_up(("a", "b")), (("x", ((A, 1), (B, 2))),)), (
            ((), ()), (("b",), (("x", 2),)), (("a", "b"), (("x", 1),))))
        self.check((ring(("a", "b")), (("x", ((A, 1),)),)), (((), ()), (("a", "b"), (("x", 1),))))

    def test_against_all_closed_requests(self):
        for library in small_libraries()[::2] + libraries_of_all_sizes(1) + [STD]:
            answers = Answers(library)
            self.check(library, tuple((closed, answers.view(closed)) for closed in answers.closed))
            self.check(library, tuple((closed, view(library, closed)) for closed in closed_requests(library[0])))


class SameViews(unittest.TestCase):
    def check(self, one, other, answer):
        with self.subTest(one=one, other=other):
            self.assertIs(same_views(one, other), answer)
            self.assertIs(same_views(other, one), answer)

    def test_formulas_written_otherwise(self):
        for library in small_libraries()[::3] + libraries_of_all_sizes(2):
            self.check(library, library, True)
            self.check(library, library_written_otherwise(library), True)

    def test_formulas_that_differ_only_at_requests_that_are_not_closed(self):
        self.check((chain_up(("a", "b")), (("x", ((A, 1),)),)), (
            chain_up(("a", "b")), (("x", ((("all", A, B), 1),)),)), True)
        self.check((AB, (("x", ((A, 1),)),)), (AB, (("x", ((("all", A, B), 1),)),)), False)

    def test_items_that_are_never_seen(self):
        self.check((AB, ()), (AB, (("x", ((NEVER, 1),)),)), True)
        self.check((AB, (("x", ((A, 1),)),)), (AB, (("x", ((A, 1), (("all", A, B), 2))), ("y", ((NEVER, 2),)))), True)

    def test_another_row(self):
        one = (AB, (("x", ((A, 1), (B, 2))),))
        for rows in (((A, 1),), ((B, 2),), ((B, 2), (A, 1)), ((A, 1), (B, 3)), ((A, 1), (B, 2), (ALWAYS, 1)),
                     ((A, 0), (B, 2)), ((A, 1), (B, 2), (("not", A), 2))):
            self.check(one, (AB, (("x", rows),)), False)
        self.check(one, (AB, (("x", ((A, 1), (B, 2), (A, 9))),)), True)
        self.check(one, (AB, (("y", ((A, 1), (B, 2))),)), False)
        self.check(one, (AB, (("w", ((A, 1),)), ("x", ((A, 1), (B, 2))))), False)

    def test_another_manifest(self):
        items = (("x", ((ALWAYS, 1),)),)
        manifests = [(), (("a", ()),), (("b", ()),), AB, ABC, chain_up(("a", "b")), chain_down(("a", "b")),
                     ring(("a", "b"))]
        for at, one in enumerate(manifests):
            for other_at, other in enumerate(manifests):
                self.check((one, items), (other, items), at == other_at)

    def test_another_manifest_with_the_same_closed_requests(self):
        one = (("a", ("b",)), ("b", ("c",)), ("c", ()))
        other = (("a", ("b", "c")), ("b", ("c",)), ("c", ()))
        self.assertEqual(closed_requests(one), closed_requests(other))
        items = (("x", ((A, 1),)),)
        self.assertEqual(table((one, items)), table((other, items)))
        self.check((one, items), (other, items), False)
        self.check((one, ()), (other, ()), False)
        self.check((one, items), (one, items), True)

    def test_against_all_views(self):
        libraries = [library for library in small_libraries() if len(library[0]) == 2][::9]
        made = [(library, Answers(library)) for library in libraries]
        same = 0
        for one, first in made:
            for other, second in made:
                answer = first.manifest == second.manifest and first.views == second.views
                self.check(one, other, answer)
                same += answer
        self.assertGreater(same, len(made))


class Grounds(unittest.TestCase):
    def check(self, library, answer):
        with self.subTest(library=library):
            found = grounds(library)
            self.assertEqual(found, answer)
            parts = [found, *found, *(triple[2] for triple in found)]
            self.assertEqual({type(part) for part in parts}, {tuple})

    def test_least_closed_requests_in_their_order(self):
        self.check((ABC, (("x", ((("any", ("all", A, B), C), 4),)),)), (("x", 4, (("c",), ("a", "b"))),))
        self.check((ABC, (("x", ((("any", C, B, A), 4),)),)), (("x", 4, (("a",), ("b",), ("c",))),))
        self.check((ABC, (("x", ((("any", ("all", B, C), ("all", A, B), ("all", A, B, C)), 4),)),)), (
            ("x", 4, (("a", "b"), ("b", "c"))),))

    def test_always_seen(self):
        self.check((ABC, (("x", ((ALWAYS, 0),)),)), (("x", 0, ((),)),))
        self.check(((), (("x", ((ALWAYS, 99),)),)), (("x", 99, ((),)),))

    def test_never_seen(self):
        self.check(((), ()), ())
        self.check((ABC, ()), ())
        self.check((ABC, (("w", ((NEVER, 1),)), ("x", ((A, 1),)), ("y", ((("all", B, ("not", B)), 1),)))), (
            ("x", 1, (("a",),)),))
        self.check(((), (("x", ((NEVER, 1),)),)), ())

    def test_closed_over_the_manifest(self):
        self.check((chain_up(("a", "b", "c")), (("x", ((B, 1),)),)), (("x", 1, (("b", "c"),)),))
        self.check((chain_down(("a", "b", "c")), (("x", ((B, 1),)),)), (("x", 1, (("a", "b"),)),))
        self.check((ring(("a", "b")) + (("c", ()),), (("x", ((("any", A, C), 1),)),)), (
            ("x", 1, (("c",), ("a", "b"))),))

    def test_formulas_with_not(self):
        # Additive, although not without "not": b implies a.
        self.check((chain_down(("a", "b")), (("x", ((("any", ("not", B), A), 1),)),)), (("x", 1, ((),)),))
        self.check((AB, (("x", ((("not", ("all", ("not", A), ("not", B))), 1),)),)), (("x", 1, (("a",), ("b",))),))

    def test_several_items_ascending(self):
        items = (("aa", ((B, 3),)), ("b", ((ALWAYS, 2),)), ("x", ((A, 1),)))
        self.check((AB, items), (("aa", 3, (("b",),)), ("b", 2, ((),)), ("x", 1, (("a",),))))

    def test_many_requests(self):
        # All requests of four of eight features.
        four = [request for request in all_subsets(EIGHT) if len(request) == 4]
        formula = ("any", *(("all", *(("feature", name) for name in request)) for request in four))
        self.check((without_implied(EIGHT), (("x", ((formula, 1),)),)), (("x", 1, tuple(four)),))

    def test_against_all_closed_requests(self):
        many = set()
        for library in additive_libraries(3):
            answer = grounds_by_trying(Answers(library))
            self.check(library, answer)
            many |= {len(requests) for _, _, requests in answer}
        self.assertGreater(len(many), 3)

    def test_not_additive(self):
        refused = 0
        for library in small_libraries()[::2] + libraries_of_all_sizes(4) + [STD]:
            steps = Answers(library).breaking_steps()
            if steps:
                with self.subTest(library=library):
                    with self.assertRaises(NotAdditive) as context:
                        grounds(library)
                    self.assertEqual(context.exception.value, steps[0])
                    self.assertEqual(context.exception.value, breaking_steps(library)[0])
                    self.assertIs(type(context.exception.value), tuple)
                refused += 1
        self.assertGreater(refused, 100)

    def test_first_of_the_steps(self):
        library = (ABC, (("x", gone_with("b", "c")), ("y", gone_with("c"))))
        with self.assertRaises(NotAdditive) as context:
            grounds(library)
        self.assertEqual(context.exception.value, ((), "c", "y"))


class Taken(unittest.TestCase):
    def check(self, one, other, answer):
        with self.subTest(one=one, other=other):
            found = taken(one, other)
            self.assertEqual(found, answer)
            self.assertIs(type(found), type(answer))

    def test_nothing(self):
        for library in small_libraries()[::7] + libraries_of_all_sizes(5):
            self.check(library, library, None)
            self.check(library, library_written_otherwise(library), None)
            self.check((library[0], ()), library, None)

    def test_more_is_not_taken(self):
        one = (AB, (("x", ((A, 1),)),))
        self.check(one, (AB, (("w", ((A, 1),)), ("x", ((A, 1),)))), None)
        self.check(one, (AB, (("x", ((ALWAYS, 1),)),)), None)
        self.check(one, (AB, (("x", ((A, 1), (B, 7))),)), None)

    def test_gone_or_with_another_version(self):
        one = (AB, (("x", ((A, 1),)),))
        self.check(one, (AB, ()), (("a",), "x"))
        self.check(one, (AB, (("x", ((A, 2),)),)), (("a",), "x"))
        self.check(one, (AB, (("x", ((A, 0),)),)), (("a",), "x"))
        self.check(one, (AB, (("x", ((("all", A, ("not", B)), 1),)),)), (("a", "b"), "x"))
        self.check(one, (AB, (("y", ((A, 1),)),)), (("a",), "x"))

    def test_first_closed_request_then_first_item(self):
        one = (ABC, (("w", ((ALWAYS, 1),)), ("x", ((ALWAYS, 1),)), ("y", ((ALWAYS, 1),))))
        # y is taken at c alone, x at b and c, w at all three: requests of fewer features come first.
        self.check(one, (ABC, (("w", gone_with("a", "b", "c")), ("x", gone_with("b", "c")), ("y", gone_with("c")))), (
            ("c",), "y"))
        self.check(one, (ABC, (("w", gone_with("a", "b", "c")), ("x", gone_with("b")), ("y", gone_with("a", "c")))), (
            ("b",), "x"))
        self.check(one, (ABC, (("w", gone_with("a", "b")), ("x", gone_with("c")), ("y", gone_with("c")))), (
            ("c",), "x"))
        self.check(one, (ABC, ()), ((), "w"))

    def test_only_closed_requests(self):
        manifest = chain_up(("a", "b"))
        self.check((manifest, (("x", ((A, 1),)),)), (manifest, (("x", ((("all", A, B), 1),)),)), None)
        self.check((manifest, (("x", ((B, 1),)),)), (manifest, (("x", ((A, 1),)),)), (("b",), "x"))

    def test_against_all_closed_requests(self):
        source = random.Random(6)
        found = set()
        libraries = [library for library in small_libraries() if len(library[0]) == 2][::11]
        pairs = [(one, other) for one in libraries for other in libraries if one[0] == other[0]]
        for library in libraries_of_all_sizes(7):
            pairs.append((library, random_library(source, library[0], TWELVE_ITEMS)))
            kept = tuple(pair for pair in library[1] if source.randrange(4))
            pairs.append((library, (library[0], kept)))
        for one, other in pairs:
            everything = taken_by_trying(Answers(one), Answers(other))
            answer = everything[0] if everything else None
            self.check(one, other, answer)
            found.add(answer)
        self.assertIn(None, found)
        self.assertGreater(len(found), 15)

    def test_other_manifest(self):
        manifests = [(), (("a", ()),), (("b", ()),), AB, ABC, chain_up(("a", "b")), ring(("a", "b")),
                     (("a", ("b",)), ("b", ("c",)), ("c", ())), (("a", ("b", "c")), ("b", ("c",)), ("c", ()))]
        for at, one in enumerate(manifests):
            for other_at, other in enumerate(manifests):
                for items in ((), (("x", ((ALWAYS, 1),)),)):
                    if at == other_at:
                        self.check((one, items), (other, items), None)
                    else:
                        with self.subTest(one=one, other=other):
                            with self.assertRaises(OtherManifest):
                                taken((one, items), (other, ()))


class Guarantees(unittest.TestCase):
    def test_seen_exactly_where_a_ground_is_contained(self):
        for library in additive_libraries(8):
            found = {item: (version, requests) for item, version, requests in grounds(library)}
            for closed in closed_requests(library[0]):
                seen = tuple((item, found[item][0]) for item in sorted(found)
                             if any(set(request) <= set(closed) for request in found[item][1]))
                self.assertEqual(view(library, closed), seen)

    def test_grounds_exist_if_and_only_if_the_library_is_additive(self):
        for library in small_libraries()[::3]:
            if is_additive(library):
                grounds(library)
            else:
                self.assertRaises(NotAdditive, grounds, library)


class GeneralRules(unittest.TestCase):
    def test_arguments_by_name(self):
        for library in libraries_of_all_sizes(9)[::3]:
            smaller = (library[0], library[1][::2])
            self.assertEqual(table(library=library), table(library))
            self.assertIs(same_views(other=library, one=smaller), same_views(smaller, library))
            self.assertEqual(taken(other=smaller, one=library), taken(library, smaller))
            self.assertEqual(taken(other=library, one=smaller), taken(smaller, library))
        library = (AB, (("x", ((A, 1),)),))
        self.assertEqual(taken(other=(AB, ()), one=library), (("a",), "x"))
        self.assertIsNone(taken(one=(AB, ()), other=library))
        for library in additive_libraries(10)[:10]:
            self.assertEqual(grounds(library=library), grounds(library))
        with self.assertRaises(NotAdditive):
            grounds(library=STD)
        with self.assertRaises(OtherManifest):
            taken(other=STD, one=(AB, ()))

    def test_equal_calls_return_equal_results(self):
        given = libraries_of_all_sizes(11)[::2] + additive_libraries(12)[:10]

        def found(libraries):
            return {library: [table(library), grounds(library) if is_additive(library) else None,
                              taken(library, (library[0], ())), same_views(library, (library[0], ()))]
                    for library in libraries}

        first = found(given)
        self.assertEqual(found(given[::-1]), first)
        self.assertEqual(found(given), first)

    def test_somewhat_beyond_the_limits_no_error_is_raised(self):
        nine = EIGHT + ("i",)
        deep = wrapped(("feature", "a"), 12, lambda inner: ("not", inner))
        items = tuple((item, ((deep, 100),) * 7) for item in TWELVE_ITEMS + ("zzzzzzzzz",))
        for manifest in (without_implied(nine), ring(nine), chain_down(nine)):
            library = (manifest, items)
            self.assertEqual(len(table(library)), len(closed_requests(manifest)))
            self.assertIs(same_views(library, library), True)
            least = closed_requests(manifest)[1]
            self.assertEqual(grounds(library), tuple((item, 100, (least,)) for item, _ in items))
            self.assertEqual(taken(library, (manifest, ())), (least, "a"))
            self.assertEqual(features_in(manifest), nine)


if __name__ == "__main__":
    unittest.main()
