import itertools
import random
import unittest

from featureunion.errors import NoHull
from featureunion.formulas import is_formula
from featureunion.libraries import is_library, versions, view
from featureunion.nearest import hull, kernel, plain
from featureunion.steps import is_additive
from featureunion.tables import grounds, same_views, table, taken
from support import (
    A, ABC, ALWAYS, Answers, B, C, EIGHT, NEVER, STD, TWELVE_ITEMS, additive_libraries, all_subsets, chain_down,
    chain_up, closed_by_trying, gone_with, libraries_of_all_sizes, library_with, manifests_of, random_manifest, ring,
    small_libraries, without_implied,
)

AB = without_implied(("a", "b"))


def least_of(requests):
    """The requests, in their order, that contain no other one."""
    least = [request for request in requests if not any(set(other) < set(request) for other in requests)]
    return tuple(sorted(least, key=lambda request: (len(request), request)))


def plain_by_definition(manifest, triples):
    return (manifest, tuple(
        (item, ((("any", *(("all", *(("feature", name) for name in request)) for request in requests)), version),))
        for item, version, requests in triples))


def seen_by_trying(answers):
    """For each item, its versions at the closed requests at which it is seen."""
    return {item: {closed: dict(answers.view(closed))[item] for closed in answers.closed
                   if item in dict(answers.view(closed))} for item, _ in answers.items}


def hull_by_trying(answers):
    """The hull, by what is seen at all smaller closed requests, or the first item with two versions."""
    triples = []
    for item, seen in seen_by_trying(answers).items():
        if len(set(seen.values())) > 1:
            return item
        wide = [closed for closed in answers.closed if any(set(smaller) <= set(closed) for smaller in seen)]
        triples += [(item, version, least_of(wide)) for version in set(seen.values())]
    return plain_by_definition(answers.manifest, triples)


def kernel_by_trying(answers):
    """The kernel, by what is seen at all greater closed requests."""
    triples = []
    for item, seen in seen_by_trying(answers).items():
        kept = [closed for closed in seen
                if {seen.get(greater) for greater in answers.closed if set(closed) <= set(greater)} == {seen[closed]}]
        triples += [(item, seen[closed], least_of(kept)) for closed in kept[:1]]
    return plain_by_definition(answers.manifest, triples)


def one_version_libraries():
    """Libraries whose items have one version each."""
    def rows(rows):
        return tuple((formula, 7) for formula, _ in rows)

    return [(manifest, tuple((item, rows(guards)) for item, guards in items))
            for manifest, items in small_libraries()[::2] + libraries_of_all_sizes(1)]


def upper_sets(closed_requests):
    """All sets of closed requests that have all greater ones of their members."""
    found = []
    for chosen in itertools.chain.from_iterable(
            itertools.combinations(closed_requests, size) for size in range(len(closed_requests) + 1)):
        if all(greater in chosen for closed in chosen for greater in closed_requests if set(closed) <= set(greater)):
            found.append(chosen)
    return found


def random_grounds(source, manifest, items):
    """Grounds of these items as plain takes them."""
    closed = closed_by_trying(manifest)

    def some():
        return least_of(source.sample(closed, min(len(closed), source.choice((1, 3, 9)))))

    return tuple((item, source.randrange(100), some()) for item in items)


class Examples(unittest.TestCase):
    def setUp(self):
        manifest = (('alloc', ()), ('nostd', ()), ('std', ('alloc',)))
        std, alloc = ('feature', 'std'), ('feature', 'alloc')
        self.library = (manifest, (
            ('lock', ((std, 2), (alloc, 1))), ('panic', ((('not', std), 1),)), ('vec', ((alloc, 1),))))

    def test_point_19_kernel(self):
        library = self.library
        self.assertEqual(
            (kernel(library)[1][0], [view(kernel(library), request) for request in ((), ('alloc',), ('std',))]),
            (('lock', ((('any', ('all', ('feature', 'alloc'), ('feature', 'std'))), 2),)),
             [(), (('vec', 1),), (('lock', 2), ('vec', 1))]))

    def test_point_19_hull(self):
        with self.assertRaises(NoHull) as context:
            hull(self.library)
        self.assertEqual(context.exception.value, 'lock')

    def test_point_20(self):
        library = self.library
        self.assertEqual(
            (grounds(kernel(library))[1], taken(library, kernel(library)), taken(kernel(library), library)),
            (('vec', 1, (('alloc',),)), ((), 'panic'), None))


class Plain(unittest.TestCase):
    def test_rows(self):
        self.assertEqual(plain((), ()), ((), ()))
        self.assertEqual(plain(ABC, ()), (ABC, ()))
        self.assertEqual(plain(ABC, (("x", 3, ((),)),)), (ABC, (("x", ((("any", ("all",)), 3),)),)))
        self.assertEqual(plain(ABC, (("x", 0, (("b",),)),)), (ABC, (("x", ((("any", ("all", B)), 0),)),)))
        self.assertEqual(plain(ABC, (("x", 99, (("c",), ("a", "b"))),)), (
            ABC, (("x", ((("any", ("all", C), ("all", A, B)), 99),)),)))
        self.assertEqual(plain(ABC, (("w", 1, (("a", "b", "c"),)), ("x", 2, (("a",), ("b",))))), (
            ABC, (("w", ((("any", ("all", A, B, C)), 1),)), ("x", ((("any", ("all", A), ("all", B)), 2),)))))

    def test_none_to_twelve_items(self):
        source = random.Random(2)
        for size in range(9):
            for many in range(13):
                manifest = random_manifest(source, size)
                triples = random_grounds(source, manifest, TWELVE_ITEMS[:many])
                with self.subTest(manifest=manifest, triples=triples):
                    found = plain(manifest, triples)
                    self.assertEqual(found, plain_by_definition(manifest, triples))
                    self.assertIs(is_library(found), True)

    def test_seen_where_a_request_is_contained(self):
        source = random.Random(3)
        for size in range(9):
            manifest = random_manifest(source, size)
            triples = random_grounds(source, manifest, TWELVE_ITEMS)
            found = plain(manifest, triples)
            for closed in closed_by_trying(manifest):
                seen = tuple((item, version) for item, version, requests in triples
                             if any(set(request) <= set(closed) for request in requests))
                self.assertEqual(view(found, closed), seen)

    def test_most_requests(self):
        for size in range(9):
            requests = tuple(request for request in all_subsets(EIGHT) if len(request) == size)
            found = plain(without_implied(EIGHT), (("x", 1, requests),))
            self.assertEqual(found, plain_by_definition(without_implied(EIGHT), (("x", 1, requests),)))
            self.assertIs(is_formula(found[1][0][1][0][0]), True)
            self.assertIs(is_library(found), True)


class Hull(unittest.TestCase):
    def check(self, library, answer):
        with self.subTest(library=library):
            found = hull(library)
            self.assertEqual(found, answer)
            self.assertIs(is_library(found), True)
            self.assertIs(is_additive(found), True)

    def check_none(self, library, item):
        with self.subTest(library=library):
            with self.assertRaises(NoHull) as context:
                hull(library)
            self.assertEqual(context.exception.value, item)

    def test_rows(self):
        self.check((AB, (("x", gone_with("a")),)), (AB, (("x", ((("any", ("all",)), 1),)),)))
        self.check((AB, (("x", ((("all", A, ("not", B)), 5),)),)), (AB, (("x", ((("any", ("all", A)), 5),)),)))
        one = ("any", ("all", A, ("not", B)), ("all", B, ("not", A)))
        self.check((AB, (("x", ((one, 5),)),)), (AB, (("x", ((("any", ("all", A), ("all", B)), 5),)),)))

    def test_without_items_that_are_never_seen(self):
        self.check(((), ()), ((), ()))
        self.check((AB, (("w", ((NEVER, 1),)), ("x", ((A, 1),)), ("y", ((("all", B, ("not", B)), 1),)))), (
            AB, (("x", ((("any", ("all", A)), 1),)),)))
        # Seen only at a request that is not closed.
        self.check((chain_up(("a", "b")), (("x", ((("all", A, ("not", B)), 1),)),)), (chain_up(("a", "b")), ()))

    def test_first_item_with_two_versions(self):
        two, one = ((A, 1), (B, 2)), ((A, 1), (B, 1))
        self.check_none((AB, (("x", two),)), "x")
        self.check_none((AB, (("w", one), ("x", two), ("y", two), ("z", one))), "x")
        self.check_none((AB, (("w", two), ("x", two))), "w")
        self.check_none((AB, (("w", ((NEVER, 1),)), ("x", ((A, 0), (ALWAYS, 1))))), "x")

    def test_two_versions_of_which_one_is_never_seen(self):
        self.check((AB, (("x", ((A, 1), (("all", A, B), 2))),)), (AB, (("x", ((("any", ("all", A)), 1),)),)))
        self.check((chain_up(("a", "b")), (("x", ((("all", A, ("not", B)), 2), (A, 1))),)), (
            chain_up(("a", "b")), (("x", ((("any", ("all", A, B)), 1),)),)))

    def test_same_version_by_several_rows(self):
        self.check((ABC, (("x", ((A, 1), (("all", B, C), 1))),)), (
            ABC, (("x", ((("any", ("all", A), ("all", B, C)), 1),)),)))

    def test_against_all_smaller_closed_requests(self):
        found = {str: 0, tuple: 0}
        for library in one_version_libraries() + small_libraries()[1::2] + libraries_of_all_sizes(4) + [STD]:
            answer = hull_by_trying(Answers(library))
            found[type(answer)] += 1
            if isinstance(answer, str):
                self.check_none(library, answer)
                self.assertGreater(len(versions(library, answer)), 1)
            else:
                self.check(library, answer)
        self.assertGreater(min(found.values()), 80)


class Kernel(unittest.TestCase):
    def check(self, library, answer):
        with self.subTest(library=library):
            found = kernel(library)
            self.assertEqual(found, answer)
            self.assertIs(is_library(found), True)
            self.assertIs(is_additive(found), True)

    def test_rows(self):
        self.check((AB, (("x", gone_with("a")),)), (AB, ()))
        self.check((AB, (("x", ((A, 5), (B, 5))),)), (AB, (("x", ((("any", ("all", A), ("all", B)), 5),)),)))
        self.check((AB, (("x", ((A, 5), (B, 4))),)), (AB, (("x", ((("any", ("all", A)), 5),)),)))
        # Gone with a, back with b: only from b on it is never lost.
        self.check((AB, (("x", ((("any", ("not", A), B), 3),)),)), (AB, (("x", ((("any", ("all", B)), 3),)),)))

    def test_the_version_with_all_features(self):
        self.check((AB, (("x", ((("all", A, B), 2), (ALWAYS, 1))),)), (
            AB, (("x", ((("any", ("all", A, B)), 2),)),)))
        self.check((AB, (("x", ((("all", A, B), 0), (ALWAYS, 1))),)), (
            AB, (("x", ((("any", ("all", A, B)), 0),)),)))

    def test_without_items_that_are_never_seen(self):
        self.check(((), ()), ((), ()))
        self.check((AB, (("w", ((NEVER, 1),)), ("x", ((A, 1),)), ("y", gone_with("a", "b")))), (
            AB, (("x", ((("any", ("all", A)), 1),)),)))

    def test_closed_requests_only(self):
        self.check((chain_down(("a", "b", "c")), (("x", ((B, 1),)),)), (
            chain_down(("a", "b", "c")), (("x", ((("any", ("all", A, B)), 1),)),)))
        self.check((ring(("a", "b")), (("x", ((A, 1),)),)), (
            ring(("a", "b")), (("x", ((("any", ("all", A, B)), 1),)),)))
        # What would be lost only at a request that is not closed is not lost.
        self.check((chain_up(("a", "b")), (("x", ((("not", ("all", A, ("not", B))), 1),)),)), (
            chain_up(("a", "b")), (("x", ((("any", ("all",)), 1),)),)))

    def test_against_all_greater_closed_requests(self):
        sizes = set()
        libraries = one_version_libraries() + small_libraries()[1::2] + libraries_of_all_sizes(5)
        for library in libraries + additive_libraries(6)[:36] + [STD]:
            answer = kernel_by_trying(Answers(library))
            self.check(library, answer)
            sizes |= {(len(answer[1]), len(rows[0][0])) for _, rows in answer[1]}
        self.assertGreater(len(sizes), 8)


class Guarantees(unittest.TestCase):
    def has_all_of(self, one, other):
        """Whether a library has at each closed request all that another one has there."""
        return all(set(seen) <= set(more) for (_, seen), (_, more) in zip(table(other), table(one)))

    def test_hull_has_all_and_kernel_nothing_but_what_is_there(self):
        for library in one_version_libraries():
            self.assertTrue(self.has_all_of(hull(library), library))
            self.assertIsNone(taken(library, hull(library)))
        for library in small_libraries()[::3] + libraries_of_all_sizes(7):
            self.assertTrue(self.has_all_of(library, kernel(library)))
            self.assertIsNone(taken(kernel(library), library))

    def test_least_and_greatest_of_all_additive_libraries(self):
        # One item is enough: each item is decided for itself.
        source = random.Random(8)
        hulls = 0
        for manifest in manifests_of(("a", "b", "c"))[::3] + manifests_of(("a", "b")) + [()]:
            closed = closed_by_trying(manifest)
            additive = [{request: version for request in chosen} for chosen in upper_sets(closed) for version in (1, 2)]
            for choices in ((None, 1), (None, 1, 1, 2)):
                seen = {request: source.choice(choices) for request in closed}
                library = library_with(manifest, {"x": {
                    request: seen.get(request) for request in all_subsets(tuple(name for name, _ in manifest))}})
                there = {request: version for request, version in seen.items() if version is not None}
                above = [other for other in additive if there.items() <= other.items()]
                below = [other for other in additive if other.items() <= there.items()]

                def seen_in(library):
                    return {request: pairs[0][1] for request, pairs in table(library) if pairs}

                self.assertEqual(seen_in(library), there)
                greatest = seen_in(kernel(library))
                self.assertTrue(greatest in below and all(other.items() <= greatest.items() for other in below))
                if above:
                    least = seen_in(hull(library))
                    self.assertTrue(least in above and all(least.items() <= other.items() for other in above))
                    hulls += 1
                else:
                    self.assertRaises(NoHull, hull, library)
        self.assertGreater(hulls, 15)

    def test_additive_if_and_only_if_it_has_the_views_of_its_kernel(self):
        for library in small_libraries() + libraries_of_all_sizes(9) + additive_libraries(10)[:36]:
            self.assertIs(same_views(library, kernel(library)), is_additive(library))

    def test_hull_and_kernel_of_an_additive_library_have_its_views(self):
        for library in additive_libraries(11):
            self.assertIs(same_views(library, hull(library)), True)
            self.assertEqual(hull(library), kernel(library))
            self.assertEqual(hull(library), plain(library[0], grounds(library)))
            self.assertEqual(kernel(kernel(library)), kernel(library))

    def test_grounds_and_plain_lead_to_each_other(self):
        source = random.Random(12)
        for size in range(9):
            for many in (0, 1, 12):
                manifest = random_manifest(source, size)
                triples = random_grounds(source, manifest, TWELVE_ITEMS[:many])
                self.assertEqual(grounds(plain(manifest, triples)), triples)
        for library in additive_libraries(13):
            self.assertIs(same_views(plain(library[0], grounds(library)), library), True)


class GeneralRules(unittest.TestCase):
    def test_arguments_by_name(self):
        triples = (("w", 1, (("a", "b"),)), ("x", 2, ((),)))
        self.assertEqual(plain(grounds=triples, manifest=ABC), plain(ABC, triples))
        self.assertEqual(plain(ABC, grounds=triples), plain(ABC, triples))
        for library in additive_libraries(14)[:36:3]:
            self.assertEqual(hull(library=library), hull(library))
            self.assertEqual(kernel(library=library), kernel(library))
        with self.assertRaises(NoHull):
            hull(library=STD)

    def test_equal_calls_return_equal_results(self):
        given = one_version_libraries()[::5]

        def found(libraries):
            return {library: [hull(library), kernel(library)] for library in libraries}

        first = found(given)
        self.assertEqual(found(given[::-1]), first)
        self.assertEqual(found(given), first)

    def test_somewhat_beyond_the_limits_no_error_is_raised(self):
        nine = EIGHT + ("i",)
        items = tuple((item, ((("feature", "a"), 100),) * 7) for item in TWELVE_ITEMS + ("zzzzzzzzz",))
        for manifest in (without_implied(nine), ring(nine), chain_down(nine)):
            least = closed_by_trying(manifest)[1]
            answer = plain_by_definition(manifest, [(item, 100, (least,)) for item, _ in items])
            self.assertEqual(hull((manifest, items)), answer)
            self.assertEqual(kernel((manifest, items)), answer)


if __name__ == "__main__":
    unittest.main()
