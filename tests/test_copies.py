import itertools
import random
import unittest

from featureunion.copies import cover, is_cover, is_split, serves, split
from featureunion.errors import BadUsers, UnknownUser
from featureunion.groups import losses
from featureunion.libraries import version_at
from support import (
    A, ABC, ALWAYS, Answers, B, EIGHT, EIGHT_USERS, SEEN, STD, STD_USERS, TWELVE_ITEMS, all_subsets, builtin_things,
    chain_down, chain_up, deep_things, gone_with, libraries_and_users, names_of, no_names, no_users, other_things,
    partitions_of, random_additive_library, random_fragile_library, random_library, random_manifest,
    random_table_library, ring, splits_by_trying, with_one_list, with_one_other, without_implied,
)

# x is there without a, and with a and b together; so p and q clash, but with r all three are harmless.
COMING_BACK = (ABC, (("x", ((("any", ("not", A), B), 1),)),))
COMING_BACK_USERS = (("p", (), ("x",)), ("q", ("a",), ()), ("r", ("b",), ()))
SEEN_USERS = (("p", ("a",), ("w",)), ("q", (), ("x",)))
MOST_TRIED = 70000


def serving_by_trying(answers, users, name):
    """All closed requests that serve a user, in their order."""
    request, items = next((request, items) for other, request, items in users if other == name)
    own = dict(answers.view(request))
    return tuple(closed for closed in answers.closed if set(request) <= set(closed)
                 and all(dict(answers.view(closed)).get(item) == own[item] for item in items))


def is_covered(served, requests):
    """Whether each user, by all that serve it, is served by one of these requests."""
    return all(set(requests) & set(closed) for closed in served)


def first_cover_by_trying(answers, users):
    """The first of all covers with as few requests as possible, None if there are too many to try them all."""
    served = [serving_by_trying(answers, users, name) for name in names_of(users)]
    tried = 0
    for size in range(9):
        for requests in itertools.combinations(answers.closed, size):
            if is_covered(served, requests):
                return requests
            tried += 1
            if tried > MOST_TRIED:
                return None
    raise AssertionError("no cover")


def crowded_libraries(seed):
    """Libraries of few closed requests, with eight users who rely on all that they see."""
    source = random.Random(seed)
    manifests = [without_implied(EIGHT[:4]), chain_up(EIGHT), chain_down(EIGHT), ring(("a", "b")) + ABC[2:]]
    manifests += [random_manifest(source, size) for size in (2, 3, 3, 4, 4, 4)]
    for manifest in manifests:
        for make in (random_table_library, random_library):
            library = make(source, manifest, TWELVE_ITEMS[:source.choice((1, 2, 3))])
            answers = Answers(library)
            requests = [source.choice(answers.requests) for _ in EIGHT_USERS]
            yield library, answers, tuple(
                (name, request, tuple(item for item, _ in answers.view(request)))
                for name, request in zip(EIGHT_USERS, requests))


def libraries_with_items_that_come_back(seed):
    """Libraries whose items are there or not at random, and users who ask for little."""
    source = random.Random(seed)
    for _ in range(40):
        library = random_table_library(source, without_implied(EIGHT[:4]), ("x", "y", "z"))
        answers = Answers(library)
        requests = [source.choice(answers.requests[:5]) for _ in range(4)]
        yield library, answers, tuple((name, request, tuple(item for item, _ in answers.view(request))[:1])
                                      for name, request in zip("pqrs", requests))


class Examples(unittest.TestCase):
    def setUp(self):
        manifest = (('alloc', ()), ('nostd', ()), ('std', ('alloc',)))
        std, alloc = ('feature', 'std'), ('feature', 'alloc')
        self.library = (manifest, (
            ('lock', ((std, 2), (alloc, 1))), ('panic', ((('not', std), 1),)), ('vec', ((alloc, 1),))))
        self.users = (('p', ('alloc',), ('lock',)), ('q', ('std',), ('vec',)), ('r', (), ('panic',)))

    def test_point_16(self):
        library, users = self.library, self.users
        self.assertEqual(
            (split(library, users), is_split(library, users, (('p',), ('q',), ('r',))),
             is_split(library, users, (('p', 'q'), ('r',)))),
            ((('p', 'r'), ('q',)), True, False))

    def test_point_17(self):
        library, users = self.library, self.users
        self.assertEqual(
            (cover(library, users), serves(library, users, 'p'), is_cover(library, users, ((), ('alloc', 'std')))),
            ((('alloc',), ('alloc', 'std')), (('alloc',), ('alloc', 'nostd')), False))


class Split(unittest.TestCase):
    def check(self, library, users, answer):
        with self.subTest(library=library, users=users):
            found = split(library, users)
            self.assertEqual(found, answer)
            self.assertEqual({type(part) for part in (found, *found)}, {tuple})
            self.assertIs(is_split(library, users, found), True)

    def test_no_users(self):
        for library in (STD, SEEN, ((), ()), (ABC, ())):
            self.check(library, (), ())

    def test_one_user(self):
        self.check(STD, STD_USERS[:1], (("p",),))
        self.check(((), ()), (("q", (), ()),), (("q",),))

    def test_least_of_several(self):
        # p and q clash, r can stand beside each of them: ("p",) is less than ("p", "r").
        library = (ABC, (("x", gone_with("a")),))
        users = (("p", (), ("x",)), ("q", ("a",), ()), ("r", (), ()))
        self.check(library, users, (("p",), ("q", "r")))
        # Here r clashes with q, too.
        self.check(library, users[:2] + (("r", (), ("x",)),), (("p", "r"), ("q",)))
        self.check(library, users + (("s", (), ()),), (("p",), ("q", "r", "s")))

    def test_few_groups_before_the_least_ones(self):
        # The least first group would be ("p",), but then two more groups are needed.
        library = (ABC, (("x", gone_with("a")), ("y", gone_with("b"))))
        users = (("p", ("a",), ("y",)), ("q", ("b",), ("x",)), ("r", ("a",), ("y",)))
        self.check(library, users, (("p", "r"), ("q",)))

    def test_group_whose_smaller_groups_are_not_harmless(self):
        self.check(COMING_BACK, COMING_BACK_USERS, (("p", "q", "r"),))
        self.check(COMING_BACK, COMING_BACK_USERS[:2], (("p",), ("q",)))

    def test_all_alone(self):
        # At each request of one feature the item has another version.
        rows = tuple((("feature", name), at) for at, name in enumerate(EIGHT[:6]))
        library = (without_implied(EIGHT), (("x", ((("all", A, B), 7),) + rows[:5]),))
        users = tuple((name, (feature,), ("x",)) for name, feature in zip(EIGHT_USERS, EIGHT[:5]))
        self.check(library, users, splits_by_trying(Answers(library), users)[0])
        self.check((ABC, (("x", ((("all", A, B), 1), (A, 2), (B, 3))),)), (
            ("p", ("a",), ("x",)), ("q", ("b",), ("x",)), ("r", ("a", "b"), ("x",))), (("p",), ("q",), ("r",)))

    def test_additive_libraries_need_one_group(self):
        source = random.Random(1)
        for size in range(9):
            library = random_additive_library(source, random_manifest(source, size), TWELVE_ITEMS)
            users = Answers(library).random_users(source, EIGHT_USERS)
            self.check(library, users, (EIGHT_USERS,))

    def test_against_all_partitions(self):
        sizes = set()
        for library, answers, users in libraries_and_users(2, 2):
            found = splits_by_trying(answers, users)
            self.check(library, users, found[0])
            sizes.add((len(users), len(found[0])))
        self.assertEqual({many for many, _ in sizes}, set(range(9)))
        self.assertTrue({0, 1, 2, 3} <= {groups for _, groups in sizes}, sizes)

    def test_against_all_partitions_of_eight_users(self):
        sizes = set()
        for library, answers, users in crowded_libraries(3):
            found = splits_by_trying(answers, users)
            self.check(library, users, found[0])
            sizes.add(len(found[0]))
        self.assertTrue({2, 3, 4} <= sizes, sizes)

    def test_of_items_that_come_back(self):
        for library, answers, users in libraries_with_items_that_come_back(20):
            self.check(library, users, splits_by_trying(answers, users)[0])

    def test_of_fragile_libraries(self):
        # Only several users together make somebody lose something, so that pairs alone do not decide.
        source = random.Random(4)
        sizes = set()
        for _ in range(30):
            library = random_fragile_library(source, without_implied(EIGHT[:5]), TWELVE_ITEMS[:4])
            answers = Answers(library)
            users = tuple((name, (source.choice(EIGHT[:5]),), tuple(item for item, _ in answers.view(())))
                          for name in EIGHT_USERS[:source.choice((5, 6, 7))])
            found = splits_by_trying(answers, users)
            self.check(library, users, found[0])
            sizes.add(len(found[0]))
        self.assertTrue({1, 2, 3} & sizes and len(sizes) > 1, sizes)


class IsSplit(unittest.TestCase):
    def check(self, library, users, thing, answer):
        with self.subTest(library=library, users=users, thing=thing):
            self.assertIs(is_split(library, users, thing), answer)

    def test_no_users(self):
        self.check(SEEN, (), (), True)
        for thing in (((),), ((), ()), (("p",),), [], None, "", ([],)):
            self.check(SEEN, (), thing, False)

    def test_all_partitions(self):
        answered = []
        for library, answers, users in libraries_and_users(5, 1):
            users = users[:5]
            right = set(splits_by_trying(answers, users))
            for groups in partitions_of(names_of(users)):
                self.check(library, users, groups, groups in right)
                answered.append(groups in right)
        self.assertGreater(answered.count(False), 100)
        self.assertGreater(answered.count(True), 100)

    def test_groups_left_out_twice_empty_and_out_of_order(self):
        for library, users in ((SEEN, SEEN_USERS), (STD, STD_USERS), (COMING_BACK, COMING_BACK_USERS)):
            groups = tuple((name,) for name in names_of(users))
            self.check(library, users, groups, True)
            self.check(library, users, (), False)
            for at in range(len(groups)):
                self.check(library, users, groups[:at] + groups[at + 1:], False)
                self.check(library, users, groups[:at] + groups[at:at + 1] * 2 + groups[at + 1:], False)
            for at in range(len(groups) + 1):
                self.check(library, users, groups[:at] + ((),) + groups[at:], False)
            for order in itertools.permutations(groups):
                self.check(library, users, order, order == groups)

    def test_order_of_the_groups(self):
        users = tuple((name, (), ()) for name in "pqrs")
        self.check(SEEN, users, (("p", "s"), ("q", "r")), True)
        self.check(SEEN, users, (("q", "r"), ("p", "s")), False)
        self.check(SEEN, users, (("p", "q", "r"), ("s",)), True)
        self.check(SEEN, users, (("s",), ("p", "q", "r")), False)

    def test_order_in_a_group(self):
        users = tuple((name, (), ()) for name in "pqr")
        for names in itertools.permutations("pqr"):
            self.check(SEEN, users, (names,), names == ("p", "q", "r"))
        self.check(SEEN, users, (("q", "p"), ("r",)), False)
        self.check(SEEN, users, (("p",), ("r", "q")), False)

    def test_a_user_in_two_groups_or_in_none(self):
        users = tuple((name, (), ()) for name in "pqr")
        for groups in ((("p", "q"), ("q", "r")), (("p",), ("p", "q", "r")), (("p", "q", "r"), ("r",)),
                       (("p", "p"), ("q", "r")), (("p", "q", "q", "r"),), (("p", "q"),), (("q", "r"),),
                       (("p",), ("r",))):
            self.check(SEEN, users, groups, False)

    def test_unknown_names(self):
        users = tuple((name, (), ()) for name in "pqr")
        for name in ("a", "o", "pp", "s", "x", "", "P", "p ", "zzzzzzzzz"):
            self.check(SEEN, users, tuple(sorted((("p",), ("q",), ("r",), (name,)))), False)
            self.check(SEEN, users, (tuple(sorted(("p", "q", "r", name))),), False)
            self.check(SEEN, users, (tuple(sorted(("p", "q", name))),), False)
            self.check(SEEN, users, tuple(sorted((("p",), ("q",), (name,)))), False)

    def test_groups_that_are_not_harmless(self):
        self.check(STD, STD_USERS, (("p", "q", "r"),), False)
        self.check(STD, STD_USERS, (("p",), ("q", "r")), False)
        self.check(STD, STD_USERS, (("p", "r"), ("q",)), True)
        self.check(COMING_BACK, COMING_BACK_USERS, (("p", "q", "r"),), True)
        self.check(COMING_BACK, COMING_BACK_USERS, (("p", "q"), ("r",)), False)
        # The first, the middle or the last group.
        library = (ABC, (("x", gone_with("a")),))
        users = tuple((name, (), ("x",)) for name in "pqrst") + (("u", ("a",), ()),)
        for groups in ((("p", "u"), ("q", "r"), ("s", "t")), (("p", "q"), ("r", "u"), ("s", "t")),
                       (("p", "q"), ("r", "s"), ("t", "u"))):
            self.check(library, users, groups, False)
        self.check(library, users, (("p", "q"), ("r", "s", "t"), ("u",)), True)

    def test_more_groups_than_needed(self):
        users = tuple((name, (), ()) for name in EIGHT_USERS)
        for size in range(1, 9):
            groups = tuple((name,) for name in EIGHT_USERS[:size - 1]) + (EIGHT_USERS[size - 1:],)
            self.check(SEEN, users, groups, True)

    def test_names_by_themselves(self):
        users = tuple((name, (), ()) for name in "pq")
        for thing in (("p", "q"), "pq", (("p",), "q"), ("p", ("q",)), ("pq",), (("pq",),), ((("p",),), (("q",),)),
                      users):
            self.check(SEEN, users, thing, False)

    def test_lists_in_the_place_of_tuples(self):
        for library, users in ((STD, STD_USERS), (SEEN, SEEN_USERS), (SEEN, ())):
            for thing in with_one_list(split(library, users)):
                self.check(library, users, thing, False)
            self.check(library, users, [list(names) for names in split(library, users)], False)

    def test_anything(self):
        groups = (("p", "r"), ("q",))
        self.check(STD, STD_USERS, groups, True)
        for thing in other_things() + deep_things(30):
            self.check(STD, (), thing, False)
            for whole in with_one_other(groups, thing):
                self.check(STD, STD_USERS, whole, False)
        for depth in range(2, 31):
            for thing in deep_things(depth):
                self.check(STD, STD_USERS, thing, False)
                self.check(STD, (), thing, False)


class Serves(unittest.TestCase):
    def check(self, library, users, name, answer):
        with self.subTest(library=library, users=users, name=name):
            found = serves(library, users, name)
            self.assertEqual(found, answer)
            self.assertEqual({type(part) for part in (found, *found)}, {tuple})

    def test_contains_the_request(self):
        users = (("p", ("a",), ()), ("q", (), ()), ("r", ("a", "c"), ()))
        self.check(SEEN, users, "p", (("a",), ("a", "b"), ("a", "c"), ("a", "b", "c")))
        self.check(SEEN, users, "q", tuple(all_subsets(("a", "b", "c"))))
        self.check(SEEN, users, "r", (("a", "c"), ("a", "b", "c")))

    def test_contains_the_closure(self):
        library = (chain_up(("a", "b", "c")), ())
        self.check(library, (("p", ("b",), ()),), "p", (("b", "c"), ("a", "b", "c")))

    def test_versions_of_the_own_view(self):
        users = (("p", ("a",), ("x",)), ("q", ("b",), ("x",)), ("r", (), ("x", "y")))
        self.check(SEEN, users, "p", (("a",), ("a", "b"), ("a", "c"), ("a", "b", "c")))
        self.check(SEEN, users, "q", (("b",), ("b", "c")))
        self.check(SEEN, users, "r", ((), ("b",), ("c",), ("b", "c")))

    def test_each_item_counts(self):
        library = (ABC, (("x", gone_with("a")), ("y", gone_with("b")), ("z", gone_with("c"))))
        users = (("p", (), ("x",)), ("q", (), ("x", "y")), ("r", (), ("x", "y", "z")), ("s", (), ("z",)))
        self.check(library, users, "p", ((), ("b",), ("c",), ("b", "c")))
        self.check(library, users, "q", ((), ("c",)))
        self.check(library, users, "r", ((),))
        self.check(library, users, "s", ((), ("a",), ("b",), ("a", "b")))

    def test_not_only_requests_near_the_own_one(self):
        self.check(COMING_BACK, COMING_BACK_USERS, "p", ((), ("b",), ("c",), ("a", "b"), ("b", "c"), ("a", "b", "c")))

    def test_against_all_closed_requests(self):
        many = set()
        for library, answers, users in libraries_and_users(6, 2):
            for name in names_of(users):
                answer = serving_by_trying(answers, users, name)
                self.check(library, users, name, answer)
                many.add(len(answer))
        self.assertGreater(len(many), 10)

    def test_unknown_user(self):
        for thing in no_names():
            for users in (SEEN_USERS, ()):
                with self.subTest(thing=thing, users=users):
                    with self.assertRaises(UnknownUser) as context:
                        serves(SEEN, users, thing)
                    self.assertIs(context.exception.value, thing)

    def test_bad_users_before_unknown_user(self):
        for thing in no_users():
            for name in ("p", "none", None, ["p"], thing):
                with self.subTest(thing=thing, name=name):
                    with self.assertRaises(BadUsers) as context:
                        serves(SEEN, thing, name)
                    self.assertIs(context.exception.value, thing)


class Cover(unittest.TestCase):
    def check(self, library, users, answer):
        with self.subTest(library=library, users=users):
            found = cover(library, users)
            self.assertEqual(found, answer)
            self.assertEqual({type(part) for part in (found, *found)}, {tuple})
            self.assertIs(is_cover(library, users, found), True)

    def test_no_users(self):
        for library in (STD, SEEN, ((), ()), (ABC, ())):
            self.check(library, (), ())

    def test_one_user(self):
        self.check(STD, STD_USERS[:1], (("alloc",),))
        self.check(STD, STD_USERS[1:2], (("alloc", "std"),))
        self.check(((), ()), (("q", (), ()),), ((),))

    def test_fewer_than_groups(self):
        # With b, which nobody asks for, p and q can share a copy.
        self.check(COMING_BACK, COMING_BACK_USERS[:2], (("a", "b"),))
        self.assertEqual(len(split(COMING_BACK, COMING_BACK_USERS[:2])), 2)

    def test_first_of_several(self):
        # Requests of one feature stand before those of two: ("b",) before ("a", "b").
        self.check(SEEN, (("p", ("b",), ()),), (("b",),))
        self.check(SEEN, (("p", (), ()), ("q", ("c",), ())), (("c",),))
        library = (ABC, (("x", gone_with("a")),))
        users = (("p", (), ("x",)), ("q", ("a",), ()), ("r", ("c",), ()))
        self.check(library, users[:2], ((), ("a",)))
        # r may be served by either: the first request stays the first one possible.
        self.check(library, users, ((), ("a", "c")))

    def test_the_first_request_decides_before_the_second(self):
        library = (without_implied(("a", "b", "c", "d")), (("x", gone_with("a")),))
        users = (("p", ("b",), ("x",)), ("q", ("a",), ()), ("r", ("d",), ()), ("s", ("c",), ()))
        # Not (("b",), ("a", "c", "d")): ("a",) stands before ("b",).
        self.check(library, users, (("a",), ("b", "c", "d")))

    def test_additive_libraries_need_one_request(self):
        source = random.Random(7)
        for size in range(9):
            library = random_additive_library(source, random_manifest(source, size), TWELVE_ITEMS)
            answers = Answers(library)
            users = answers.random_users(source, EIGHT_USERS)
            self.check(library, users, (answers.closure(*(request for _, request, _ in users)),))

    def test_against_all_sets_of_closed_requests(self):
        sizes = []
        for library, answers, users in libraries_and_users(8, 2):
            answer = first_cover_by_trying(answers, users)
            if answer is not None:
                self.check(library, users, answer)
                sizes.append(len(answer))
        self.assertGreater(len(sizes), 60)
        self.assertTrue({0, 1, 2} <= set(sizes), sizes)

    def test_against_all_sets_with_eight_users(self):
        sizes = []
        for seed in (9, 10, 11):
            for library, answers, users in crowded_libraries(seed):
                answer = first_cover_by_trying(answers, users)
                if answer is not None:
                    self.check(library, users, answer)
                    sizes.append(len(answer))
        self.assertGreater(len(sizes), 40)
        self.assertTrue({1, 2, 3, 4} <= set(sizes), sizes)

    def test_of_items_that_come_back(self):
        for library, answers, users in libraries_with_items_that_come_back(21):
            self.check(library, users, first_cover_by_trying(answers, users))

    def test_many_requests(self):
        # Each user relies on an item that is there at its own request alone.
        names = EIGHT[:3]
        rows = {request: (("all", *(("feature", name) if name in request else ("not", ("feature", name))
                                    for name in names)), 1) for request in all_subsets(names)}
        library = (without_implied(names), tuple(
            (item, (rows[request],)) for item, request in zip(TWELVE_ITEMS, all_subsets(names))))
        users = tuple((name, request, (item,))
                      for name, item, request in zip(EIGHT_USERS, TWELVE_ITEMS, all_subsets(names)))
        for many in range(9):
            self.check(library, users[:many], tuple(all_subsets(names))[:many])
            self.assertEqual(split(library, users[:many]), tuple((name,) for name in EIGHT_USERS[:many]))


class IsCover(unittest.TestCase):
    def check(self, library, users, thing, answer):
        with self.subTest(library=library, users=users, thing=thing):
            self.assertIs(is_cover(library, users, thing), answer)

    def test_no_users(self):
        # Then all different closed requests in their order are a cover.
        for requests in ((), ((),), (("a",),), ((), ("b",)), (("b",), ("a", "b"))):
            self.check(SEEN, (), requests, True)
        for thing in ((("d",),), (("a", "b"), ("b",)), ((), ()), [], None, "", ([],)):
            self.check(SEEN, (), thing, False)

    def test_all_sets_of_closed_requests(self):
        answered = []
        source = random.Random(12)
        for _ in range(8):
            library = random_table_library(source, random_manifest(source, 3), ("x", "y"))
            answers = Answers(library)
            users = answers.random_users(source, ("p", "q", "r"))
            served = [serving_by_trying(answers, users, name) for name in names_of(users)]
            for size in range(len(answers.closed) + 1):
                for requests in itertools.combinations(answers.closed, size):
                    self.check(library, users, requests, is_covered(served, requests))
                    answered.append(is_covered(served, requests))
        self.assertGreater(answered.count(False), 50)
        self.assertGreater(answered.count(True), 50)

    def test_requests_left_out_or_twice(self):
        for library, answers, users in crowded_libraries(13):
            requests = cover(library, users)
            self.check(library, users, requests, True)
            for at in range(len(requests)):
                self.check(library, users, requests[:at] + requests[at + 1:], False)
                self.check(library, users, requests[:at] + requests[at:at + 1] * 2 + requests[at + 1:], False)

    def test_out_of_order(self):
        users = (("p", ("a",), ("w",)), ("q", ("b",), ()), ("r", ("c",), ()))
        requests = (("a",), ("b",), ("b", "c"), ("a", "b", "c"))
        for order in itertools.permutations(requests):
            self.check(SEEN, users, order, order == requests)
        # Ascending as tuples is not the order.
        self.check(SEEN, users, (("a",), ("a", "b", "c"), ("b",), ("b", "c")), False)

    def test_not_closed(self):
        library = (chain_up(("a", "b", "c")), ())
        users = (("p", (), ()), ("q", ("a",), ()))
        self.check(library, users, (("a", "b", "c"),), True)
        for request in all_subsets(("a", "b", "c")):
            is_closed = request in ((), ("c",), ("b", "c"), ("a", "b", "c"))
            self.check(library, users[:1], (request,), is_closed)
            together = tuple(sorted({request, ("a", "b", "c")}, key=len))
            self.check(library, users, together, is_closed)

    def test_no_requests(self):
        users = (("p", ("a",), ("w",)),)
        for request in (("d",), ("b", "a"), ("a", "a"), "a", ("A",), ("",), ("ab",), ("a", "b", "d"), ["a"], None):
            self.check(SEEN, users, (request,), False)
            self.check(SEEN, users, (request, ("a", "b", "c")), False)
            self.check(SEEN, users, (("a",), request), False)
        self.check(SEEN, users, ("a",), False)
        self.check(SEEN, users, (("a",),), True)

    def test_requests_that_serve_nobody(self):
        users = (("p", ("a",), ("w",)),)
        self.check(SEEN, users, ((), ("a",), ("b",), ("a", "b"), ("b", "c")), True)
        self.check(SEEN, users, ((), ("b",), ("b", "c")), False)

    def test_lists_in_the_place_of_tuples(self):
        for library, users in ((STD, STD_USERS), (SEEN, SEEN_USERS), (SEEN, ())):
            for thing in with_one_list(cover(library, users)):
                self.check(library, users, thing, False)
            self.check(library, users, [list(request) for request in cover(library, users)], False)

    def test_anything(self):
        requests = (("alloc",), ("alloc", "std"))
        self.check(STD, STD_USERS, requests, True)
        for thing in other_things() + deep_things(30):
            for whole in with_one_other(requests, thing):
                self.check(STD, STD_USERS, whole, False)
            for whole in with_one_other(("alloc",), thing):
                self.check(STD, (), (whole,), False)
        for depth in range(2, 31):
            for thing in deep_things(depth):
                self.check(STD, STD_USERS, thing, False)
                self.check(STD, (), thing, False)


class BadUsersOfAnything(unittest.TestCase):
    def test_each_function(self):
        for thing in no_users():
            for call in (lambda: split(SEEN, thing), lambda: cover(SEEN, thing), lambda: serves(SEEN, thing, "p"),
                         lambda: is_split(SEEN, thing, ()), lambda: is_cover(SEEN, thing, ()),
                         lambda: is_split(SEEN, thing, thing), lambda: is_cover(SEEN, thing, thing)):
                with self.subTest(thing=thing):
                    with self.assertRaises(BadUsers) as context:
                        call()
                    self.assertIs(context.exception.value, thing)


class Guarantees(unittest.TestCase):
    def test_nobody_loses_anything_in_a_group_of_split(self):
        for library, answers, users in itertools.chain(libraries_and_users(14, 1), crowded_libraries(14)):
            groups = split(library, users)
            self.assertEqual(sorted(name for names in groups for name in names), list(names_of(users)))
            for names in groups:
                group = tuple(user for user in users if user[0] in names)
                self.assertEqual(losses(library, group), ())
                self.assertEqual(answers.losses(group), ())

    def test_nobody_loses_anything_at_a_request_of_cover_that_serves_it(self):
        for library, answers, users in itertools.chain(libraries_and_users(15, 1), crowded_libraries(15)):
            requests = cover(library, users)
            for name, request, items in users:
                serving = [closed for closed in requests if closed in serves(library, users, name)]
                self.assertGreater(len(serving), 0)
                for closed, item in itertools.product(serving, items):
                    self.assertTrue(set(request) <= set(closed))
                    self.assertEqual(version_at(library, closed, item), version_at(library, request, item))
                    self.assertIsNotNone(version_at(library, closed, item))

    def test_no_smaller_number_is_enough(self):
        fewer = 0
        for library, answers, users in itertools.chain(
                libraries_and_users(16, 1), crowded_libraries(16), libraries_with_items_that_come_back(16)):
            groups, requests = split(library, users), cover(library, users)
            self.assertLessEqual(len(requests), len(groups))
            fewer += len(requests) < len(groups)
            harmless = splits_by_trying(answers, users)
            self.assertEqual(min(len(other) for other in harmless), len(groups))
            served = [serving_by_trying(answers, users, name) for name in names_of(users)]
            useful = sorted({closed for serving in served for closed in serving})
            if requests and len(useful) ** (len(requests) - 1) < 5000:
                for smaller in itertools.combinations(useful, len(requests) - 1):
                    self.assertFalse(is_covered(served, smaller))
        self.assertGreater(fewer, 10)


class GeneralRules(unittest.TestCase):
    def test_arguments_by_name(self):
        for library, answers, users in libraries_and_users(17, 1):
            self.assertEqual(split(users=users, library=library), split(library, users))
            self.assertEqual(cover(users=users, library=library), cover(library, users))
            groups, requests = split(library, users), cover(library, users)
            self.assertIs(is_split(thing=groups, users=users, library=library), True)
            self.assertIs(is_split(library, thing=groups[1:], users=users), users == ())
            self.assertIs(is_cover(thing=requests, users=users, library=library), True)
            self.assertIs(is_cover(library, thing=list(requests), users=users), False)
            for name in names_of(users)[:3]:
                self.assertEqual(serves(name=name, users=users, library=library), serves(library, users, name))
        with self.assertRaises(UnknownUser):
            serves(name="x", users=STD_USERS, library=STD)
        for call in (split, cover):
            with self.assertRaises(BadUsers):
                call(users=None, library=STD)
        for call in (is_split, is_cover):
            with self.assertRaises(BadUsers):
                call(thing=(), users=None, library=STD)

    def test_no_argument_is_changed(self):
        def made():
            return builtin_things() + with_one_list(STD_USERS) + with_one_list((("p", "r"), ("q",))) + [
                [["q"], ["p"]], {"p": ["q"]}, [list(STD_USERS[0])]]

        things = made()
        for thing in things:
            for whole in with_one_other((("p", "r"), ("q",)), thing):
                is_split(STD, STD_USERS, whole)
            for whole in with_one_other((("alloc",), ("alloc", "std")), thing):
                is_cover(STD, STD_USERS, whole)
            with self.assertRaises(UnknownUser):
                serves(STD, STD_USERS, thing)
            for call in (lambda: split(STD, thing), lambda: cover(STD, thing), lambda: serves(STD, thing, "p"),
                         lambda: is_split(STD, thing, thing), lambda: is_cover(STD, thing, thing)):
                with self.assertRaises(BadUsers):
                    call()
        self.assertEqual(things, made())

    def test_no_iterator_is_used_up(self):
        names = iter(["p", "q"])
        for thing in (names, (names,), (("p",), names)):
            self.assertIs(is_split(STD, STD_USERS, thing), False)
            self.assertIs(is_cover(STD, STD_USERS, thing), False)
            with self.assertRaises(UnknownUser):
                serves(STD, STD_USERS, thing)
            with self.assertRaises(BadUsers):
                split(STD, thing)
        self.assertEqual(list(names), ["p", "q"])

    def test_equal_calls_return_equal_results(self):
        given = [(library, users) for library, answers, users in libraries_and_users(18, 1)]

        def found(rows):
            return {row: [split(*row), cover(*row)] + [serves(*row, name) for name in names_of(row[1])]
                    for row in rows}

        first = found(given)
        self.assertEqual(found(given[::-1]), first)
        self.assertEqual(found(given), first)

    def test_somewhat_beyond_the_limits_of_libraries_no_error_is_raised(self):
        source = random.Random(19)
        nine = EIGHT + ("i",)
        for manifest in (without_implied(nine), ring(nine), chain_down(nine)):
            items = TWELVE_ITEMS + ("zzzzzzzzz",)
            library = (manifest, random_library(source, manifest, items)[1] + (("zzzzzzzzzz", ((ALWAYS, 100),) * 7),))
            users = (("p", ("a",), ()), ("q", ("h", "i"), ()))
            self.assertEqual(split(library, users), (("p", "q"),))
            self.assertIs(is_split(library, users, (("p", "q"),)), True)
            self.assertEqual(len(cover(library, users)), 1)
            self.assertIs(is_cover(library, users, cover(library, users)), True)
            self.assertGreater(len(serves(library, users, "p")), 0)


if __name__ == "__main__":
    unittest.main()
