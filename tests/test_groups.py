import itertools
import random
import unittest

from featureunion.errors import BadUsers, UnknownUser
from featureunion.groups import is_clashing, is_users, losses, smallest_harmful, stranger, united
from featureunion.steps import breaking_pair, is_additive, safe_features
from support import (
    A, ABC, ALWAYS, Answers, B, C, EIGHT, EIGHT_USERS, SEEN, STD, STD_USERS, TWELVE_ITEMS, all_subsets,
    builtin_things, chain_down, chain_up, deep_things, gone_with, libraries_and_users, libraries_of_all_sizes,
    names_of, no_names, no_requests, no_users, other_things, random_additive_library, random_library, random_manifest,
    ring, small_libraries, with_one_list, with_one_other, without_implied,
)

FUNCTIONS = (united, losses, smallest_harmful, stranger)


def harmful_by_trying(answers, users):
    """The names of all groups that are not harmless, by their number of users, then ascending."""
    by_name = {user[0]: user for user in users}
    return [names for names in all_subsets(tuple(by_name)) if answers.losses([by_name[name] for name in names])]


def strangers_by_trying(answers, users):
    """All requests with which one more user, who relies on nothing, makes somebody lose something, in their order."""
    return [request for request in answers.requests if answers.losses(users + (("zzzzz", request, ()),))]


class Examples(unittest.TestCase):
    def setUp(self):
        manifest = (('alloc', ()), ('nostd', ()), ('std', ('alloc',)))
        std, alloc = ('feature', 'std'), ('feature', 'alloc')
        self.library = (manifest, (
            ('lock', ((std, 2), (alloc, 1))), ('panic', ((('not', std), 1),)), ('vec', ((alloc, 1),))))
        self.users = (('p', ('alloc',), ('lock',)), ('q', ('std',), ('vec',)), ('r', (), ('panic',)))

    def test_point_13(self):
        library, users = self.library, self.users
        self.assertEqual(
            (united(library, users), losses(library, users), losses(library, users[1:2])),
            (('alloc', 'std'), (('p', 'lock'), ('r', 'panic')), ()))

    def test_point_14(self):
        library, users = self.library, self.users
        self.assertEqual(
            (smallest_harmful(library, users), is_clashing(library, users, 'p', 'r')), (('p', 'q'), False))

    def test_point_15(self):
        library, users = self.library, self.users
        self.assertEqual(
            (stranger(library, users[:1]), stranger(library, users[1:2]), stranger(library, ())),
            (('std',), None, None))


class Users(unittest.TestCase):
    def check(self, thing, answer, library=SEEN):
        with self.subTest(thing=thing, library=library):
            self.assertIs(is_users(library, thing), answer)

    def test_number_of_users(self):
        for many in range(12):
            self.check(tuple((name, ("b",), ("x",)) for name in "abcdefghijkl"[:many]), many <= 8)
        self.check(tuple((name, (), ()) for name in EIGHT_USERS), True)
        self.check(tuple((name, (), ()) for name in EIGHT_USERS[:4] + ("bobby",) + EIGHT_USERS[4:]), False)

    def test_out_of_order_or_twice(self):
        for names in (("b", "a"), ("a", "c", "b"), ("b", "a", "c"), ("aa", "a"), ("b", "aa")):
            self.check(tuple((name, (), ()) for name in names), False)
            self.check(tuple((name, (), ()) for name in sorted(names)), True)
        self.check(tuple((name, (), ()) for name in EIGHT_USERS[::-1]), False)
        for names in (("a", "a"), ("a", "b", "b"), ("a", "a", "b"), ("a", "b", "a")):
            self.check(tuple((name, (), ()) for name in names), False)
        self.check((("a", (), ()), ("a", ("b",), ("x",))), False)
        # Only the names are in order: requests and items may be equal or in any order.
        self.check((("a", ("b",), ("x", "y")), ("b", ("a",), ("w",)), ("c", (), ()), ("d", (), ())), True)

    def test_names_that_are_none(self):
        for thing in other_things() + ["", "A", "a1", " a", "a ", "a\n", "abcdefghi", ("a",), ["a"]]:
            self.check(((thing, (), ()),), False)
            self.check((("a", (), ()), (thing, (), ())), False)
            self.check(((thing, (), ()), ("zzz", (), ())), False)
        for name in ("a", "z", "abcdefgh", "all", "w", "none"):
            self.check(((name, ("a",), ("w",)),), True)

    def test_requests_that_are_none(self):
        for thing in no_requests():
            self.check((("p", thing, ()),), False)
            self.check((("p", thing, ("x",)),), False)
            self.check((("o", (), ()), ("p", thing, ()), ("q", (), ())), False)
        for request in all_subsets(("a", "b", "c")):
            self.check((("p", request, ()),), True)
            self.check((("p", request, ("x",)),), True)

    def test_items_in_the_view(self):
        for request in all_subsets(("a", "b", "c")):
            seen = {"w", "x"} if "a" in request else {"x", "y"}
            for items in all_subsets(("none", "w", "x", "y", "z")):
                self.check((("p", request, items),), set(items) <= seen)
                self.check((("o", (), ()), ("p", request, items), ("q", (), ())), set(items) <= seen)

    def test_view_at_the_closure_of_the_own_request(self):
        library = (chain_up(("a", "b", "c")), (("x", ((C, 1),)), ("y", gone_with("b"))))
        for request in all_subsets(("a", "b", "c")):
            self.check((("p", request, ("x",)),), request != (), library)
            self.check((("p", request, ("y",)),), request in ((), ("c",)), library)
        self.check((("p", ("c",), ("x", "y")), ("q", ("a",), ("x",))), True, library)
        self.check((("p", (), ("y",)), ("q", ("a",), ("y",))), False, library)

    def test_items_out_of_order_or_twice(self):
        for items in (("x", "w"), ("w", "w"), ("x", "x"), ("w", "x", "x"), ("w", "x", "w")):
            self.check((("p", ("a",), items),), False)
        self.check((("p", ("a",), ("w", "x")),), True)

    def test_items_that_are_no_items(self):
        things = ["x", "", b"x", ["x"], {"x"}, {"x": 1}, None, 1, ("x", None), (None, "x"), ("x", 1), (("x",),),
                  (["x"],), ("X",), (("x", 1),), ("x ",), ((),), ("a",), ("b",)]
        for thing in other_things() + things:
            self.check((("p", ("b",), thing),), False)
            self.check((("p", ("b",), ("x",)), ("q", ("b",), thing)), False)

    def test_lists_in_the_place_of_tuples(self):
        good = (("p", ("a", "b"), ("w", "x")), ("q", (), ("x",)), ("r", (), ()))
        self.check(good, True)
        self.assertEqual(len(with_one_list(good)), 10)
        for thing in with_one_list(good) + [[]]:
            self.check(thing, False)

    def test_triples_that_are_none(self):
        for thing in ((), ("p",), ("p", ()), ("p", (), (), ()), ("p", (), (), None), ((), (), ()), ((), "p", ()), "p",
                      "pqr", None, 3, {"p": ()}, {"p", "q", "r"}, ["p", (), ()], (("p", (), ()),), ("p", "a", "x")):
            self.check((thing,), False)
            self.check((thing, ("q", (), ())), False)
            self.check((("a", (), ()), thing), False)
        self.check(("p", (), ()), False)

    def test_anything(self):
        good = (("p", ("a", "b"), ("w", "x")), ("q", (), ("x",)))
        for other in other_things():
            for thing in with_one_other(good, other):
                self.check(thing, False)
        for thing in no_users():
            self.check(thing, False)
        for depth in range(2, 31):
            for thing in deep_things(depth):
                self.check(thing, False)

    def test_without_features_or_items(self):
        self.check((), True, ((), ()))
        self.check((("p", (), ()),), True, ((), ()))
        self.check((("p", (), ("x",)),), False, ((), ()))
        self.check((("p", (), ("x",)),), True, ((), (("x", ((ALWAYS, 1),)),)))

    def test_users_of_all_sizes(self):
        for library, answers, users in libraries_and_users(30, 4):
            self.check(users, True, library)


class United(unittest.TestCase):
    def check(self, library, users, answer):
        with self.subTest(library=library, users=users):
            found = united(library, users)
            self.assertEqual(found, answer)
            self.assertIs(type(found), tuple)

    def test_closure_of_the_union(self):
        self.check(STD, (), ())
        self.check(STD, STD_USERS, ("alloc", "std"))
        self.check(STD, STD_USERS[2:], ())
        self.check(STD, (("p", ("std",), ()), ("q", ("nostd",), ())), ("alloc", "nostd", "std"))
        self.check((ring(EIGHT), ()), (("p", ("e",), ()),), EIGHT)
        self.check((ABC, ()), (("p", ("c",), ()), ("q", ("a",), ()), ("r", ("a", "c"), ())), ("a", "c"))

    def test_groups_of_none_to_eight_users(self):
        for library, answers, users in libraries_and_users(31, 8):
            self.check(library, users, answers.closure(*(request for _, request, _ in users)))


class Losses(unittest.TestCase):
    def check(self, library, users, answer):
        with self.subTest(library=library, users=users):
            found = losses(library, users)
            self.assertEqual(found, answer)
            self.assertIs(type(found), tuple)
            self.assertEqual({type(pair) for pair in found} - {tuple}, set())

    def test_only_what_a_user_relies_on(self):
        self.check(SEEN, (("p", (), ("x", "y")), ("q", ("a",), ())), (("p", "x"), ("p", "y")))
        self.check(SEEN, (("p", (), ("y",)), ("q", ("a",), ())), (("p", "y"),))
        self.check(SEEN, (("p", (), ()), ("q", ("a",), ("w", "x"))), ())
        self.check(SEEN, (("p", ("a",), ("w", "x")), ("q", ("b",), ("x", "y"))), (("q", "x"), ("q", "y")))

    def test_by_user_then_by_item(self):
        users = tuple((name, (), ("x", "y")) for name in ("a", "aa", "b")) + (("c", ("a",), ()),)
        self.check(SEEN, users, tuple((name, item) for name in ("a", "aa", "b") for item in ("x", "y")))

    def test_another_version_counts_as_lost(self):
        library = (ABC, (("x", ((A, 0), (B, 1), (ALWAYS, 0))),))
        self.check(library, (("p", (), ("x",)), ("q", ("b",), ("x",))), (("p", "x"),))
        self.check(library, (("p", (), ("x",)), ("q", ("b",), ("x",)), ("r", ("a",), ())), (("q", "x"),))
        self.check(library, (("p", (), ("x",)), ("r", ("a",), ())), ())

    def test_one_user_loses_nothing(self):
        for library in small_libraries():
            answers = Answers(library)
            for request in answers.requests:
                self.check(library, (("p", request, tuple(item for item, _ in answers.view(request))),), ())
        self.check(SEEN, (), ())

    def test_what_features_imply_counts(self):
        library = (chain_up(("a", "b", "c")), (("x", gone_with("c")),))
        for feature in ("a", "b", "c"):
            self.check(library, (("p", (), ("x",)), ("q", (feature,), ())), (("p", "x"),))

    def test_groups_of_none_to_eight_users(self):
        many = set()
        for library, answers, users in libraries_and_users(32, 12):
            answer = answers.losses(users)
            self.check(library, users, answer)
            many.add(min(len(answer), 4))
        self.assertEqual(many, {0, 1, 2, 3, 4})


class SmallestHarmful(unittest.TestCase):
    def check(self, library, users, answer):
        with self.subTest(library=library, users=users):
            found = smallest_harmful(library, users)
            self.assertEqual(found, answer)
            self.assertIs(type(found), type(answer))

    def test_ties(self):
        users = (("p", ("a",), ()), ("q", (), ("y",)), ("r", (), ("x",)), ("s", ("a", "b"), ()), ("t", (), ()))
        self.check(SEEN, users, ("p", "q"))
        self.check(SEEN, users[1:], ("q", "s"))
        self.check(SEEN, users[:1] + users[2:], ("p", "r"))
        self.check(SEEN, users[2:], ("r", "s"))

    def test_three_and_more_users(self):
        for size in range(2, 9):
            names = EIGHT[:size]
            library = (without_implied(names), (("x", gone_with(*names)),))
            # The one who relies on x asks for nothing or for one feature, and stands first, last or between.
            users = tuple((user, (feature,), ()) for user, feature in zip("bcdefghi", names))
            for at in range(size):
                some = users[:at] + ((users[at][0], users[at][1], ("x",)),) + users[at + 1:]
                self.check(library, some, names_of(users))
                self.check(library, some[1:], None)
                self.check(library, some[:-1], None)

    def test_fewest_users_before_the_least_names(self):
        library = (ABC, (("x", gone_with("a", "b")), ("y", gone_with("c"))))
        users = (("p", ("a",), ("x",)), ("q", ("b",), ()), ("r", ("c",), ()), ("s", (), ("x", "y")))
        self.check(library, users, ("p", "q"))
        self.check(library, users[1:], ("r", "s"))
        users = (("a", ("a",), ()), ("b", ("b",), ()), ("c", (), ("x",)), ("d", ("c",), ()), ("e", (), ("y",)))
        self.check(library, users, ("d", "e"))

    def test_a_group_may_be_harmful_and_a_greater_one_not(self):
        library = (ABC, (("x", ((("any", ("not", A), B), 1),)),))
        users = (("p", (), ("x",)), ("q", ("a",), ()), ("r", ("b",), ()))
        self.assertEqual(losses(library, users), ())
        self.check(library, users, ("p", "q"))

    def test_none(self):
        self.check(SEEN, (), None)
        self.check(((), ()), tuple((name, (), ()) for name in EIGHT_USERS), None)
        self.check(SEEN, (("p", ("a",), ("w", "x")), ("q", ("a", "b"), ("w",)), ("r", ("c",), ())), None)
        self.check(SEEN, (("p", (), ("x", "y")), ("q", ("b",), ("x",)), ("r", ("c",), ("y",))), None)

    def test_against_all_groups(self):
        sizes = set()
        for library, answers, users in libraries_and_users(33, 6):
            harmful = harmful_by_trying(answers, users)
            self.check(library, users, harmful[0] if harmful else None)
            sizes.add(len(harmful[0]) if harmful else None)
        self.assertTrue({None, 2, 3} <= sizes, sizes)


class Clashing(unittest.TestCase):
    def test_every_pair(self):
        clashing = set()
        for library, answers, users in libraries_and_users(34, 3):
            for one, other in itertools.product(users, repeat=2):
                answer = one != other and answers.losses((one, other)) != ()
                with self.subTest(library=library, users=users, one=one[0], other=other[0]):
                    self.assertIs(is_clashing(library, users, one[0], other[0]), answer)
                clashing.add(answer)
        self.assertEqual(clashing, {False, True})

    def test_in_both_orders(self):
        for one, other, answer in (("p", "q", True), ("p", "r", False), ("q", "r", True)):
            self.assertIs(is_clashing(STD, STD_USERS, one, other), answer)
            self.assertIs(is_clashing(STD, STD_USERS, other, one), answer)

    def test_other_users_do_not_matter(self):
        library = (ABC, (("x", gone_with("a", "b")), ("y", gone_with("c"))))
        users = (("p", ("a",), ("x",)), ("q", ("b",), ()), ("r", (), ("x", "y")), ("s", ("c",), ()))
        for one, other in itertools.combinations("pqrs", 2):
            self.assertIs(is_clashing(library, users, one, other), (one, other) in (("p", "q"), ("r", "s")))

    def test_two_equal_names(self):
        for name in "pqr":
            self.assertIs(is_clashing(STD, STD_USERS, name, name), False)

    def test_bad_users_before_unknown_users(self):
        for thing in no_users():
            for one, other in (("p", "q"), ("none", "q"), ("p", None), (["p"], {"q"})):
                with self.subTest(thing=thing, one=one, other=other):
                    with self.assertRaises(BadUsers) as context:
                        is_clashing(SEEN, thing, one, other)
                    self.assertIs(context.exception.value, thing)

    def test_unknown_users(self):
        users = (("p", ("a",), ("w",)), ("q", (), ("x",)))
        for thing in no_names():
            for arguments in ((thing, "p"), ("q", thing), (thing, thing)):
                with self.subTest(arguments=arguments):
                    with self.assertRaises(UnknownUser) as context:
                        is_clashing(SEEN, users, *arguments)
                    self.assertIs(context.exception.value, thing)
                    with self.assertRaises(UnknownUser) as context:
                        is_clashing(SEEN, (), *arguments)
                    self.assertIs(context.exception.value, arguments[0])

    def test_one_before_other(self):
        users = (("p", ("a",), ("w",)), ("q", (), ("x",)))
        things = no_names()
        for thing, other in zip(things, things[5:] + things[:5]):
            for first, second in ((thing, other), (other, thing)):
                with self.subTest(first=first, second=second):
                    with self.assertRaises(UnknownUser) as context:
                        is_clashing(SEEN, users, first, second)
                    self.assertIs(context.exception.value, first)

    def test_items_and_features_are_no_users(self):
        for name in ("a", "b", "w", "x"):
            with self.assertRaises(UnknownUser):
                is_clashing(SEEN, (("p", ("a",), ("w",)), ("q", (), ("x",))), "p", name)


class Stranger(unittest.TestCase):
    def check(self, library, users, answer):
        with self.subTest(library=library, users=users):
            found = stranger(library, users)
            self.assertEqual(found, answer)
            self.assertIs(type(found), type(answer))

    def test_group_that_is_not_harmless(self):
        self.check(STD, STD_USERS, ())
        self.check(SEEN, (("p", (), ("y",)), ("q", ("a",), ())), ())
        # Also if the users would lose nothing with more features.
        library = (ABC, (("x", ((("any", ("not", A), B), 1),)),))
        self.check(library, (("p", (), ("x",)), ("q", ("a",), ())), ())

    def test_group_that_is_harmless_although_a_smaller_one_is_not(self):
        library = (ABC, (("x", ((("any", ("not", A), B), 1),)),))
        self.check(library, (("p", (), ("x",)), ("q", ("a",), ()), ("r", ("b",), ())), None)

    def test_none(self):
        self.check(SEEN, (), None)
        self.check(SEEN, (("p", (), ()),), None)
        self.check(SEEN, (("p", ("a",), ("w", "x")),), None)
        self.check(STD, STD_USERS[1:2], None)

    def test_fewest_features_then_ascending(self):
        four = without_implied(("a", "b", "c", "d"))
        both = (("p", (), ("x", "y")),)
        self.check((four, (("x", gone_with("a", "b")), ("y", gone_with("d")))), both, ("d",))
        self.check((four, (("x", gone_with("c", "d")), ("y", gone_with("b", "d")))), both, ("b", "d"))
        self.check((four, (("x", gone_with("b")), ("y", gone_with("c")))), both, ("b",))
        three = (four, (("x", gone_with("a", "b", "d")),))
        self.check(three, (("p", (), ("x",)),), ("a", "b", "d"))
        self.check(three, (("p", (), ("x",)), ("q", ("b",), ())), ("a", "d"))

    def test_request_need_not_be_closed(self):
        self.check((chain_up(("a", "b", "c")), (("x", gone_with("b")),)), (("p", (), ("x",)),), ("a",))
        self.check((chain_down(("a", "b", "c")), (("x", gone_with("b")),)), (("p", (), ("x",)),), ("b",))
        self.check((ring(("a", "b")) + (("c", ()),), (("x", gone_with("b", "c")),)), (("p", ("c",), ("x",)),), ("a",))

    def test_beside_eight_users(self):
        users = tuple((name, ("b",), ("y",)) for name in EIGHT_USERS)
        self.check(SEEN, users, ("a",))

    def test_against_all_requests(self):
        sizes = set()
        for library, answers, users in libraries_and_users(35, 4):
            found = strangers_by_trying(answers, users)
            self.check(library, users, found[0] if found else None)
            sizes.add(len(found[0]) if found else None)
        self.assertTrue({None, 0, 1, 2} <= sizes, sizes)

    def test_of_few_users(self):
        source = random.Random(36)
        for library in small_libraries()[::2]:
            answers = Answers(library)
            for request in answers.requests:
                users = (("p", request, tuple(item for item, _ in answers.view(request))),)
                found = strangers_by_trying(answers, users)
                self.check(library, users, found[0] if found else None)
            users = answers.random_users(source, ("p", "q"))
            found = strangers_by_trying(answers, users)
            self.check(library, users, found[0] if found else None)


class BadUsersOfAnything(unittest.TestCase):
    def test_each_function(self):
        for thing in no_users():
            for function in FUNCTIONS:
                with self.subTest(thing=thing, function=function):
                    with self.assertRaises(BadUsers) as context:
                        function(SEEN, thing)
                    self.assertIs(context.exception.value, thing)

    def test_without_features_and_items(self):
        for thing in other_things() + [(("p", ("a",), ()),), (("p", (), ("x",)),), []]:
            for function in FUNCTIONS:
                with self.subTest(thing=thing, function=function):
                    with self.assertRaises(BadUsers) as context:
                        function(((), ()), thing)
                    self.assertIs(context.exception.value, thing)


class Guarantees(unittest.TestCase):
    def two_users(self, answers, request, more):
        """One who relies on all that it sees, and the others together, who rely on nothing."""
        return (("p", request, tuple(item for item, _ in answers.view(request))), ("q", more, ()))

    def test_somebody_loses_something_if_and_only_if_the_library_is_not_additive(self):
        additive = set()
        for library in small_libraries():
            answers = Answers(library)
            losing = [(request, more) for request, more in itertools.product(answers.requests, repeat=2)
                      if losses(library, self.two_users(answers, request, more))]
            with self.subTest(library=library):
                self.assertIs(is_additive(library), losing == [])
                self.assertEqual(any(len(more) == 1 for request, more in losing), losing != [])
                self.assertIs(breaking_pair(library) is None, losing == [])
            additive.add(losing == [])
        self.assertEqual(additive, {False, True})

    def test_all_groups_of_an_additive_library_are_harmless(self):
        source = random.Random(37)
        for size in range(9):
            for _ in range(4):
                library = random_additive_library(source, random_manifest(source, size), TWELVE_ITEMS)
                self.assertIs(is_additive(library), True)
                users = Answers(library).random_users(source, EIGHT_USERS)
                self.assertIsNone(smallest_harmful(library, users))
                self.assertIsNone(stranger(library, users))

    def test_safe_features_and_those_of_the_own_closure_harm_nobody(self):
        for library in small_libraries():
            answers = Answers(library)
            safe = set(safe_features(library))
            for request in answers.requests:
                harmless = safe | set(answers.closure(request))
                for more in answers.requests:
                    if set(more) <= harmless:
                        users = self.two_users(answers, request, more)
                        self.assertEqual(losses(library, users), (), (library, users))

    def test_many_who_ask_for_safe_features_harm_nobody(self):
        source = random.Random(38)
        tried = 0
        for library in libraries_of_all_sizes(38):
            answers = Answers(library)
            safe = safe_features(library)
            for _ in range(5):
                first, = answers.random_users(source, ("a",))
                allowed = sorted(set(safe) | set(answers.closure(first[1])))
                others = tuple((name, tuple(feature for feature in allowed if source.randrange(2)), ())
                               for name in EIGHT_USERS[1:])
                self.assertEqual(losses(library, (first,) + others), ())
                tried += set(safe) > set(answers.closure(first[1])) and safe != answers.features
        self.assertGreater(tried, 5)

    def test_each_other_feature_harms_somebody(self):
        unsafe = 0
        for library in small_libraries() + libraries_of_all_sizes(39)[:36]:
            answers = Answers(library)
            safe = safe_features(library)
            for feature in answers.features:
                harmed = any(losses(library, self.two_users(answers, request, (feature,)))
                             for request in answers.requests)
                self.assertIs(harmed, feature not in safe, (library, feature))
                unsafe += harmed
        self.assertGreater(unsafe, 100)

    def test_what_groups_return_is_exact(self):
        source = random.Random(40)
        for library in small_libraries():
            answers = Answers(library)
            users = answers.random_users(source, ("p", "q", "r"))
            harmful = harmful_by_trying(answers, users)
            strangers = strangers_by_trying(answers, users)
            with self.subTest(library=library, users=users):
                self.assertEqual(losses(library, users), answers.losses(users))
                self.assertEqual(smallest_harmful(library, users), harmful[0] if harmful else None)
                self.assertEqual(stranger(library, users), strangers[0] if strangers else None)


class GeneralRules(unittest.TestCase):
    def test_arguments_by_name(self):
        for library, answers, users in libraries_and_users(41, 1):
            self.assertIs(is_users(thing=users, library=library), True)
            self.assertIs(is_users(library, thing=users), True)
            for function in FUNCTIONS:
                self.assertEqual(function(users=users, library=library), function(library, users))
                self.assertEqual(function(library, users=users), function(library, users))
            for one, other in itertools.product(names_of(users)[:3], repeat=2):
                self.assertIs(is_clashing(other=other, one=one, users=users, library=library),
                              is_clashing(library, users, one, other))
        for thing in (("x",), ["p"], None):
            self.assertIs(is_users(thing=thing, library=STD), False)
            for function in FUNCTIONS:
                with self.assertRaises(BadUsers) as context:
                    function(users=thing, library=STD)
                self.assertIs(context.exception.value, thing)
            with self.assertRaises(UnknownUser) as context:
                is_clashing(other=thing, one="p", users=STD_USERS, library=STD)
            self.assertIs(context.exception.value, thing)
            with self.assertRaises(UnknownUser) as context:
                is_clashing(other="x", one=thing, users=STD_USERS, library=STD)
            self.assertIs(context.exception.value, thing)

    def test_no_argument_is_changed(self):
        def made():
            return builtin_things() + with_one_list(STD_USERS) + [["q", "p"], {"p": ["q"]}, [list(STD_USERS[0])]]

        things = made()
        for thing in things:
            for whole in with_one_other(STD_USERS, thing):
                is_users(STD, whole)
            for function in FUNCTIONS:
                with self.assertRaises(BadUsers):
                    function(STD, thing)
            for one, other in ((thing, "p"), ("p", thing)):
                with self.assertRaises(UnknownUser):
                    is_clashing(STD, STD_USERS, one, other)
        self.assertEqual(things, made())

    def test_no_iterator_is_used_up(self):
        names = iter(["alloc", "std"])
        for thing in (names, (names,), ("p", names, ())):
            for whole in with_one_other(STD_USERS, thing):
                is_users(STD, whole)
            for function in FUNCTIONS:
                with self.assertRaises(BadUsers):
                    function(STD, thing)
            with self.assertRaises(UnknownUser):
                is_clashing(STD, STD_USERS, thing, "p")
        self.assertEqual(list(names), ["alloc", "std"])

    def test_equal_calls_return_equal_results(self):
        given = [(library, users) for library, answers, users in libraries_and_users(42, 1)]

        def found(rows):
            return {row: [function(*row) for function in FUNCTIONS] + [is_users(*row)]
                    + [is_clashing(*row, one, other) for one, other in itertools.combinations(names_of(row[1]), 2)]
                    for row in rows}

        first = found(given)
        self.assertEqual(found(given[::-1]), first)
        self.assertEqual(found(given), first)

    def test_a_call_that_raises_changes_nothing(self):
        before = [function(STD, STD_USERS) for function in FUNCTIONS]
        for thing in (STD_USERS[::-1], list(STD_USERS), None):
            for function in FUNCTIONS:
                with self.assertRaises(BadUsers):
                    function(STD, thing)
        for thing in ("x", None, ["p"]):
            with self.assertRaises(UnknownUser):
                is_clashing(STD, STD_USERS, "p", thing)
        self.assertEqual([function(STD, STD_USERS) for function in FUNCTIONS], before)

    def test_somewhat_beyond_the_limits_of_libraries_no_error_is_raised(self):
        source = random.Random(43)
        nine = EIGHT + ("i",)
        for manifest in (without_implied(nine), ring(nine), chain_down(nine)):
            library = random_library(source, manifest, TWELVE_ITEMS + ("zzzzzzzz",))
            users = (("p", ("a",), ()), ("q", ("h", "i"), ()))
            self.assertIs(is_users(library, users), True)
            for function in FUNCTIONS:
                function(library, users)
            self.assertIs(is_clashing(library, users, "p", "q"), False)


if __name__ == "__main__":
    unittest.main()
