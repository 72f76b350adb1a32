import itertools
import random
import unittest

from featureunion.builds import Build
from featureunion.copies import is_split, split
from featureunion.errors import (
    BadItems, BadLibrary, BadName, BadNumber, BadRequest, FeatureError, FullBuild, NothingToUndo, TakenName,
    UnknownUser,
)
from featureunion.groups import is_users, losses, united
from featureunion.libraries import is_library
from support import (
    A, ABC, ALWAYS, Agreeing, Answers, B, EIGHT, EIGHT_USERS, NEVER, SEEN, STD, STD_USERS, TWELVE_ITEMS,
    all_subsets, builtin_things, chain_down, deep_things, gone_with, libraries_of_all_sizes, names_of, no_names,
    no_requests, other_things, random_additive_library, random_fragile_library, random_library, random_manifest,
    random_table_library, ring, splits_by_trying, with_one_list, without_implied,
)

# x is there without a, and with a and b together.
COMING_BACK = (ABC, (("x", ((("any", ("not", A), B), 1),)),))
# x and y are gone with a, y and z with b.
GONE = (ABC, (("x", gone_with("a")), ("y", ((("not", ("any", A, B)), 1),)), ("z", gone_with("b"))))


def state_of(build):
    """All that a build answers without being changed."""
    copies = build.copies()
    return (copies, build.users(), len(build), [build.features_at(number) for number in range(len(copies))],
            [build.copy_of(name) for name, _, _ in build.users()])


class Model:
    """What the document says of a build, worked out from the definitions."""

    def __init__(self, library):
        self.answers = Answers(library)
        self.people = {}
        self.copies = []
        self.past = []

    def is_harmless(self, names):
        return not self.answers.losses([self.people[name] for name in names])

    def add(self, name):
        for number, names in enumerate(self.copies):
            if self.is_harmless(names + [name]):
                names.append(name)
                return number
        self.copies.append([name])
        return len(self.copies) - 1

    def keep(self):
        self.past.append((dict(self.people), [list(names) for names in self.copies]))

    def enter(self, name, request, items):
        self.keep()
        self.people[name] = (name, request, items)
        return self.add(name)

    def leave(self, name):
        self.keep()
        del self.people[name]
        number = next(number for number, names in enumerate(self.copies) if name in names)
        self.copies[number].remove(name)
        others = sorted(self.copies[number])
        if not others or not self.is_harmless(others):
            del self.copies[number]
            for other in others:
                self.add(other)

    def repack(self):
        self.keep()
        self.copies = [list(names) for names in splits_by_trying(self.answers, self.users())[0]]
        return len(self.copies)

    def undo(self):
        self.people, self.copies = self.past.pop()

    def users(self):
        return tuple(self.people[name] for name in sorted(self.people))

    def state(self):
        groups = tuple(tuple(sorted(names)) for names in self.copies)
        built = [self.answers.closure(*(self.people[name][1] for name in names)) for names in groups]
        numbers = [next(at for at, names in enumerate(groups) if name in names) for name in sorted(self.people)]
        return (groups, self.users(), len(self.people), built, numbers)


def right_user(source, answers):
    """A user without a name: a request, and some of the items that are seen there."""
    (_, request, items), = answers.random_users(source, ("p",))
    return request, items


class Walk:
    """Random calls of a build and of its model, right ones and wrong ones."""

    def __init__(self, test, library, seed, most):
        self.test = test
        self.source = random.Random(seed)
        self.build, self.model = Build(library), Model(library)
        self.library = library
        self.names = EIGHT_USERS + ("none", "x")
        self.most = most
        self.met = set()

    def run(self, many):
        for _ in range(many):
            step = self.source.choice((self.enter, self.enter, self.enter, self.leave, self.leave, self.repack,
                                       self.undo, self.wrong))
            step()
            self.check()

    def check(self):
        build = self.build
        self.test.assertEqual(state_of(build), self.model.state())
        self.test.assertEqual(build.changes(), len(self.model.past))
        self.test.assertIs(is_users(self.library, build.users()), True)
        standing = sorted(name for names in build.copies() for name in names)
        self.test.assertEqual(standing, list(names_of(build.users())))
        for number, names in enumerate(build.copies()):
            group = tuple(user for user in build.users() if user[0] in names)
            self.test.assertGreater(len(group), 0)
            self.test.assertEqual(losses(self.library, group), ())
            self.test.assertEqual(build.features_at(number), united(self.library, group))
        self.met.add(("copies", len(build.copies())))

    def enter(self):
        name = self.source.choice(self.names)
        request, items = right_user(self.source, self.model.answers)
        if name in self.model.people:
            self.refused(TakenName, name, lambda: self.build.enter(name, request, items))
        elif len(self.model.people) == 8:
            self.refused(FullBuild, None, lambda: self.build.enter(name, request, items))
        elif len(self.model.people) < self.most:
            self.test.assertEqual(self.build.enter(name, request, items), self.model.enter(name, request, items))

    def leave(self):
        name = self.source.choice(self.names)
        if name in self.model.people:
            before = self.build.copies()
            self.test.assertIsNone(self.build.leave(name))
            self.model.leave(name)
            rest = [tuple(other for other in names if other != name) for names in before]
            self.met.add(("stayed", [names for names in rest if names] == list(self.build.copies())))
        else:
            self.refused(UnknownUser, name, lambda: self.build.leave(name))

    def repack(self):
        if len(self.model.people) <= 6:
            self.test.assertEqual(self.build.repack(), self.model.repack())
            self.test.assertEqual(self.build.copies(), split(self.library, self.build.users()))

    def undo(self):
        if self.model.past:
            self.test.assertIsNone(self.build.undo())
            self.model.undo()
        else:
            self.refused(NothingToUndo, None, self.build.undo)

    def wrong(self):
        thing = self.source.choice(other_things())
        request, items = right_user(self.source, self.model.answers)
        free = next(name for name in self.names if name not in self.model.people)
        for expected, call in (
                (BadName, lambda: self.build.enter(thing, request, items)),
                (BadName, lambda: self.build.enter(thing, thing, thing)),
                (BadRequest, lambda: self.build.enter(free, thing, items)),
                (BadRequest, lambda: self.build.enter(free, thing, thing)),
                (BadItems, lambda: self.build.enter(free, request, thing)),
                (UnknownUser, lambda: self.build.leave(thing)),
                (UnknownUser, lambda: self.build.copy_of(thing))):
            self.refused(expected, thing, call)

    def refused(self, expected, value, call):
        with self.test.assertRaises(expected) as context:
            call()
        if expected not in (FullBuild, NothingToUndo):
            self.test.assertIs(context.exception.value, value)
        self.met.add(expected)
        self.check()


def walked_libraries(seed):
    source = random.Random(seed)
    found = [STD, SEEN, COMING_BACK, GONE, ((), ()), ((), (("x", ((ALWAYS, 1),)),))]
    for size in (1, 2, 3, 3, 4, 4):
        found.append(random_table_library(source, random_manifest(source, size), ("x", "y")))
        found.append(random_library(source, random_manifest(source, size), TWELVE_ITEMS[:4]))
    found.append(random_fragile_library(source, without_implied(EIGHT[:5]), TWELVE_ITEMS[:4]))
    found.append(random_library(source, random_manifest(source, 6), TWELVE_ITEMS))
    return found


class Examples(unittest.TestCase):
    def setUp(self):
        manifest = (('alloc', ()), ('nostd', ()), ('std', ('alloc',)))
        std, alloc = ('feature', 'std'), ('feature', 'alloc')
        self.library = (manifest, (
            ('lock', ((std, 2), (alloc, 1))), ('panic', ((('not', std), 1),)), ('vec', ((alloc, 1),))))

    def test_point_21(self):
        build = Build(self.library)
        self.assertEqual(
            (build.enter('p', ('alloc',), ('lock',)), build.enter('q', ('std',), ('vec',)),
             build.enter('r', (), ('panic',)), build.copies()),
            (0, 1, 0, (('p', 'r'), ('q',))))

    def test_point_22(self):
        build = Build(self.library)
        build.enter('q', ('std',), ('vec',))
        build.enter('r', (), ('panic',))
        build.enter('p', ('alloc',), ('lock',))
        build.leave('q')
        self.assertEqual(
            (build.copies(), build.features_at(0), build.copy_of('p'), len(build), build.changes()),
            ((('p', 'r'),), ('alloc',), 0, 2, 4))


class New(unittest.TestCase):
    def test_without_users_and_copies(self):
        for library in libraries_of_all_sizes(1) + [STD, ((), ())]:
            build = Build(library)
            self.assertEqual((build.copies(), build.users(), len(build), build.changes()), ((), (), 0, 0))

    def test_bad_library(self):
        things = other_things() + deep_things(30) + with_one_list(STD) + [
            (), ((),), (ABC,), (ABC, (("x", ()),)), (ABC, (("x", ((("feature", "d"), 1),)),)), STD[0], STD[1],
            (without_implied(EIGHT + ("i",)), ()), (ABC, (("x", ((A, 100),)),)), (ABC, (("x", ((A, True),)),)),
            STD[::-1], (ABC, tuple((name, ((A, 1),)) for name in "abcdefghijklm")), (ABC, (("x", ((A, 1),) * 7),))]
        for thing in things:
            with self.subTest(thing=thing):
                self.assertIs(is_library(thing), False)
                with self.assertRaises(BadLibrary) as context:
                    Build(thing)
                self.assertIs(context.exception.value, thing)


class Enter(unittest.TestCase):
    def test_first_copy_that_stays_harmless(self):
        build = Build(GONE)
        self.assertEqual(build.enter("p", ("a",), ("z",)), 0)
        self.assertEqual(build.enter("q", ("b",), ("x",)), 1)
        self.assertEqual(build.enter("r", (), ("y",)), 2)
        # s fits into all copies, t into the second and the third one, u into the third one alone.
        self.assertEqual(build.enter("s", ("c",), ()), 0)
        self.assertEqual(build.enter("t", (), ("x",)), 1)
        self.assertEqual(build.enter("u", ("c",), ("x", "z")), 2)
        self.assertEqual(build.copies(), (("p", "s"), ("q", "t"), ("r", "u")))
        # v would lose nothing in any copy, but the others would.
        self.assertEqual(build.enter("v", ("a", "b"), ()), 3)
        self.assertEqual(build.copies(), (("p", "s"), ("q", "t"), ("r", "u"), ("v",)))
        self.assertEqual([build.features_at(number) for number in range(4)], [("a", "c"), ("b",), ("c",), ("a", "b")])

    def test_names_of_a_copy_ascend(self):
        build = Build(SEEN)
        for name in ("p", "b", "zz", "a", "q"):
            self.assertEqual(build.enter(name, ("b",), ()), 0)
        self.assertEqual(build.copies(), (("a", "b", "p", "q", "zz"),))
        self.assertEqual(build.users(), tuple((name, ("b",), ()) for name in ("a", "b", "p", "q", "zz")))

    def test_copies_stand_in_the_order_in_which_they_were_made(self):
        build = Build((ABC, (("x", gone_with("a")),)))
        build.enter("q", (), ("x",))
        build.enter("p", ("a",), ())
        self.assertEqual(build.copies(), (("q",), ("p",)))
        self.assertEqual((build.copy_of("q"), build.copy_of("p")), (0, 1))
        self.assertEqual(build.users(), (("p", ("a",), ()), ("q", (), ("x",))))

    def test_copies_are_not_formed_anew(self):
        # p and q clash, and r makes them harmless together, but they stay where they are.
        build = Build(COMING_BACK)
        self.assertEqual([build.enter(*user) for user in (
            ("p", (), ("x",)), ("q", ("a",), ()), ("r", ("b",), ()))], [0, 1, 0])
        self.assertEqual(build.copies(), (("p", "r"), ("q",)))

    def test_order_of_the_exceptions(self):
        build = Build(SEEN)
        build.enter("p", ("a",), ("w",))
        bad_name, taken, bad_request, bad_items = ["p"], "p", ("d",), ("y",)
        before = state_of(build)

        def check(error, value, *arguments):
            with self.subTest(arguments=arguments):
                with self.assertRaises(error) as context:
                    build.enter(*arguments)
                self.assertIs(context.exception.value, value)
                self.assertEqual(state_of(build), before)

        for request, items in itertools.product((bad_request, ("a",)), (bad_items, ("w",))):
            check(BadName, bad_name, bad_name, request, items)
            check(TakenName, taken, taken, request, items)
        for items in (bad_items, ("w",), ("x",), None):
            check(BadRequest, bad_request, "q", bad_request, items)
        check(BadItems, bad_items, "q", ("a",), bad_items)

    def test_order_of_the_exceptions_of_a_full_build(self):
        build = Build(SEEN)
        for name in EIGHT_USERS:
            build.enter(name, (), ())
        before = state_of(build)
        for error, arguments in (
                (BadName, ("P", (), ())), (BadName, (None, None, None)), (TakenName, ("p", (), ())),
                (TakenName, ("p", None, None)), (BadRequest, ("none", ("d",), ())), (BadRequest, ("none", [], [])),
                (BadItems, ("none", (), ("w",))), (BadItems, ("none", (), [])), (FullBuild, ("none", (), ())),
                (FullBuild, ("none", ("a",), ("w",)))):
            with self.subTest(error=error, arguments=arguments):
                self.assertRaises(error, build.enter, *arguments)
                self.assertEqual(state_of(build), before)
                self.assertEqual(build.changes(), 8)
        build.leave("bob")
        self.assertEqual(build.enter("none", ("a",), ("w",)), 0)

    def test_names_of_anything(self):
        build = Build(SEEN)
        for thing in other_things() + deep_things(30) + ["", "P", "p ", "abcdefghi", "p1", "p\n", ("p",)]:
            with self.subTest(thing=thing):
                with self.assertRaises(BadName) as context:
                    build.enter(thing, (), ())
                self.assertIs(context.exception.value, thing)
        self.assertEqual((len(build), build.changes()), (0, 0))
        for name in ("a", "zzzzzzzz", "x", "feature"):
            build.enter(name, (), ())

    def test_requests_of_anything(self):
        build = Build(SEEN)
        for thing in no_requests():
            with self.subTest(thing=thing):
                with self.assertRaises(BadRequest) as context:
                    build.enter("p", thing, ())
                self.assertIs(context.exception.value, thing)
        self.assertEqual((len(build), build.changes()), (0, 0))

    def test_items_of_anything(self):
        build = Build(SEEN)
        things = other_things() + deep_things(30) + [
            [], "", "x", ["x"], ("w",), ("z",), ("none",), ("y", "x"), ("x", "x"), ("x", None), (("x",),), {"x"},
            ("a",)]
        for thing in things:
            with self.subTest(thing=thing):
                with self.assertRaises(BadItems) as context:
                    build.enter("p", (), thing)
                self.assertIs(context.exception.value, thing)
        self.assertEqual((len(build), build.changes()), (0, 0))
        for items in all_subsets(("none", "w", "x", "y", "z")):
            build = Build(SEEN)
            if set(items) <= {"x", "y"}:
                self.assertEqual(build.enter("p", ("b",), items), 0)
            else:
                self.assertRaises(BadItems, build.enter, "p", ("b",), items)

    def test_items_in_the_view_at_the_closure(self):
        build = Build((chain_down(("a", "b", "c")), (("x", ((A, 1),)), ("y", gone_with("a")))))
        self.assertEqual(build.enter("p", ("c",), ("x",)), 0)
        self.assertRaises(BadItems, build.enter, "q", ("c",), ("y",))
        self.assertEqual(build.enter("q", (), ("y",)), 1)
        self.assertEqual([build.features_at(number) for number in (0, 1)], [("a", "b", "c"), ()])


class Leave(unittest.TestCase):
    def test_the_others_stay(self):
        build = Build(STD)
        for user in STD_USERS:
            build.enter(*user)
        self.assertEqual(build.copies(), (("p", "r"), ("q",)))
        self.assertIsNone(build.leave("p"))
        # r could stand beside nobody else, and is not moved; the copy is built with less.
        self.assertEqual((build.copies(), build.features_at(0)), ((("r",), ("q",)), ()))

    def test_copy_without_users_is_removed(self):
        build = Build(STD)
        for user in STD_USERS:
            build.enter(*user)
        build.leave("q")
        self.assertEqual(build.copies(), (("p", "r"),))
        build.leave("r")
        build.leave("p")
        self.assertEqual((build.copies(), build.users(), len(build)), ((), (), 0))

    def test_later_copies_move_up(self):
        build = Build(GONE)
        for user in (("p", ("a",), ("z",)), ("q", ("b",), ("x",)), ("r", (), ("y",))):
            build.enter(*user)
        build.leave("p")
        self.assertEqual((build.copies(), build.copy_of("q"), build.copy_of("r")), ((("q",), ("r",)), 0, 1))

    def test_they_stay_although_they_would_fit_into_an_earlier_copy(self):
        build = Build((ABC, (("x", gone_with("a")),)))
        for user in (("p", ("a",), ()), ("q", (), ("x",)), ("s", (), ("x",))):
            build.enter(*user)
        build.enter("r", ("b",), ())
        self.assertEqual(build.copies(), (("p", "r"), ("q", "s")))
        build.leave("p")
        self.assertEqual(build.copies(), (("r",), ("q", "s")))

    def test_the_others_are_added_again(self):
        # Without r, who asks for b, q makes p lose x.
        build = Build(COMING_BACK)
        for user in (("r", ("b",), ()), ("p", (), ("x",)), ("q", ("a",), ())):
            self.assertEqual(build.enter(*user), 0)
        build.leave("r")
        self.assertEqual(build.copies(), (("p",), ("q",)))

    def test_they_are_added_ascending_to_the_other_copies(self):
        # In the second copy, s relies on y, and so it is built without b; then the first copy breaks up.
        library = (ABC, (("x", ((("any", ("not", A), B), 1),)), ("y", gone_with("b"))))
        build = Build(library)
        self.assertEqual([build.enter(*user) for user in (
            ("r", ("b",), ()), ("s", ("c",), ("y",)), ("u", ("a",), ()), ("q", (), ("x",)), ("p", ("a",), ()))],
            [0, 1, 0, 0, 0])
        build.leave("r")
        # p goes to s, q to a new copy, because p there asks for a, and u to s and p.
        self.assertEqual(build.copies(), (("p", "s", "u"), ("q",)))
        self.assertEqual([build.features_at(number) for number in (0, 1)], [("a", "c"), ()])

    def test_unknown_user(self):
        build = Build(SEEN)
        build.enter("p", ("a",), ("w",))
        build.enter("q", (), ("x",))
        before = state_of(build)
        for thing in no_names():
            for call in (build.leave, build.copy_of):
                with self.subTest(thing=thing):
                    with self.assertRaises(UnknownUser) as context:
                        call(thing)
                    self.assertIs(context.exception.value, thing)
        self.assertEqual((state_of(build), build.changes()), (before, 2))
        build.leave("p")
        self.assertRaises(UnknownUser, build.leave, "p")
        self.assertRaises(UnknownUser, build.copy_of, "p")


class Answered(unittest.TestCase):
    def test_features_at_of_anything(self):
        build = Build(STD)
        for user in STD_USERS:
            build.enter(*user)
        self.assertEqual((build.features_at(0), build.features_at(1)), (("alloc",), ("alloc", "std")))
        integers = (0, 1)
        things = other_things() + deep_things(30) + [
            2, 3, -1, -2, 10 ** 20, True, False, "0", "1", b"0", (0,), [0], {0: 1}, None, "p", ("p",)]
        for thing in things:
            if type(thing) is int and thing in integers:
                continue
            with self.subTest(thing=thing):
                with self.assertRaises(BadNumber) as context:
                    build.features_at(thing)
                self.assertIs(context.exception.value, thing)
        self.assertEqual(build.changes(), 3)
        for thing in things + [0, 1]:
            self.assertRaises(BadNumber, Build(STD).features_at, thing)

    def test_kinds_of_values(self):
        build = Build(STD)
        for user in STD_USERS:
            self.assertIs(type(build.enter(*user)), int)
        for value in (build.copies(), build.copies()[0], build.users(), build.users()[0], build.features_at(0)):
            self.assertIs(type(value), tuple)
        for value in (build.copy_of("p"), build.repack(), build.changes(), len(build)):
            self.assertIs(type(value), int)

    def test_what_is_asked_changes_nothing(self):
        build = Build(STD)
        for user in STD_USERS:
            build.enter(*user)
        for _ in range(3):
            self.assertEqual(state_of(build), (
                (("p", "r"), ("q",)), STD_USERS, 3, [("alloc",), ("alloc", "std")], [0, 1, 0]))
            self.assertEqual(build.changes(), 3)


class Repack(unittest.TestCase):
    def test_as_split(self):
        build = Build(STD)
        for user in (STD_USERS[1], STD_USERS[2], STD_USERS[0]):
            build.enter(*user)
        self.assertEqual(build.copies(), (("q",), ("p", "r")))
        self.assertEqual(build.repack(), 2)
        self.assertEqual(build.copies(), (("p", "r"), ("q",)))
        self.assertEqual([build.features_at(number) for number in (0, 1)], [("alloc",), ("alloc", "std")])

    def test_fewer_copies(self):
        build = Build(COMING_BACK)
        for user in (("p", (), ("x",)), ("q", ("a",), ()), ("r", ("b",), ())):
            build.enter(*user)
        self.assertEqual(len(build.copies()), 2)
        self.assertEqual(build.repack(), 1)
        self.assertEqual(build.copies(), (("p", "q", "r"),))

    def test_without_users(self):
        build = Build(STD)
        self.assertEqual((build.repack(), build.copies(), build.changes()), (0, (), 1))

    def test_eight_users(self):
        source = random.Random(2)
        for library in walked_libraries(2):
            answers = Answers(library)
            build = Build(library)
            users = answers.random_users(source, EIGHT_USERS)
            for user in source.sample(users, 8):
                build.enter(*user)
            self.assertEqual(build.users(), users)
            self.assertEqual(build.repack(), len(split(library, users)))
            self.assertEqual(build.copies(), split(library, users))
            self.assertEqual(build.copies(), splits_by_trying(answers, users)[0])


class Undo(unittest.TestCase):
    def test_back_to_the_empty_build(self):
        build = Build(COMING_BACK)
        states = [state_of(build)]
        for change in (lambda: build.enter("r", ("b",), ()), lambda: build.enter("p", (), ("x",)),
                       lambda: build.enter("q", ("a",), ()), lambda: build.leave("r"), build.repack,
                       lambda: build.enter("r", ("b",), ()), build.repack, build.repack, lambda: build.leave("q")):
            change()
            states.append(state_of(build))
        self.assertGreater(len({repr(state) for state in states}), 5)
        for at in range(len(states) - 1, -1, -1):
            self.assertEqual((state_of(build), build.changes()), (states[at], at))
            if at:
                self.assertIsNone(build.undo())
        for _ in range(2):
            self.assertRaises(NothingToUndo, build.undo)
            self.assertEqual((state_of(build), build.changes()), (states[0], 0))

    def test_also_what_changed_nothing(self):
        build = Build(STD)
        build.enter(*STD_USERS[0])
        build.repack()
        build.repack()
        self.assertEqual(build.changes(), 3)
        build.undo()
        build.undo()
        self.assertEqual((build.copies(), build.changes()), ((("p",),), 1))
        build.undo()
        self.assertEqual((build.copies(), build.changes()), ((), 0))

    def test_calls_that_raise_are_not_counted(self):
        build = Build(STD)
        build.enter(*STD_USERS[0])
        for call in (lambda: build.enter("P", (), ()), lambda: build.enter(*STD_USERS[0]), lambda: build.leave("q"),
                     lambda: build.enter("q", ("x",), ()), lambda: build.enter("q", (), ("vec",)),
                     lambda: build.features_at(5), lambda: build.copy_of("q")):
            self.assertRaises(FeatureError, call)
            self.assertEqual(build.changes(), 1)
        build.undo()
        self.assertEqual((build.users(), build.changes()), ((), 0))

    def test_a_new_change_after_undo(self):
        build = Build(STD)
        build.enter(*STD_USERS[0])
        build.enter(*STD_USERS[1])
        build.undo()
        build.enter(*STD_USERS[2])
        self.assertEqual((build.copies(), build.changes()), ((("p", "r"),), 2))
        build.undo()
        self.assertEqual((build.copies(), build.changes()), ((("p",),), 1))


class Equality(unittest.TestCase):
    def check(self, one, other, answer):
        self.assertIs(one == other, answer)
        self.assertIs(other == one, answer)
        self.assertIs(one != other, not answer)
        self.assertIs(other != one, not answer)

    def made(self, library, *users):
        build = Build(library)
        for user in users:
            build.enter(*user)
        return build

    def test_equal(self):
        build = self.made(STD, *STD_USERS)
        self.check(build, build, True)
        self.check(build, self.made(STD, *STD_USERS), True)
        self.check(build, self.made(STD, STD_USERS[2], STD_USERS[1], STD_USERS[0]), True)
        self.check(Build(STD), Build(STD), True)

    def test_whatever_was_before(self):
        build = self.made(STD, *STD_USERS)
        other = self.made(STD, *STD_USERS)
        other.repack()
        self.assertNotEqual(build.changes(), other.changes())
        self.check(build, other, True)
        other.leave("q")
        self.check(build, other, False)
        other.undo()
        self.check(build, other, True)

    def test_other_libraries(self):
        self.check(Build(STD), Build(SEEN), False)
        self.check(Build((ABC, ())), Build((ABC, (("x", ((NEVER, 1),)),))), False)
        self.check(self.made((ABC, ()), ("p", (), ())), self.made((ring(("a", "b", "c")), ()), ("p", (), ())), False)

    def test_other_users(self):
        self.check(Build(STD), self.made(STD, STD_USERS[0]), False)
        self.check(self.made(STD, STD_USERS[0]), self.made(STD, STD_USERS[1]), False)
        self.check(self.made(STD, ("p", (), ())), self.made(STD, ("p", ("alloc",), ())), False)
        self.check(self.made(STD, ("p", (), ())), self.made(STD, ("p", (), ("panic",))), False)

    def test_other_copies(self):
        build = self.made(STD, *STD_USERS)
        other = self.made(STD, STD_USERS[1], STD_USERS[0], STD_USERS[2])
        self.assertEqual(build.users(), other.users())
        self.assertEqual(sorted(build.copies()), sorted(other.copies()))
        self.check(build, other, False)
        other.repack()
        self.check(build, other, True)
        users = (("p", (), ("x",)), ("q", ("a",), ()), ("r", ("b",), ()))
        build, other = self.made(COMING_BACK, *users), self.made(COMING_BACK, *users)
        other.repack()
        self.check(build, other, False)

    def test_other_objects(self):
        build = self.made(STD, *STD_USERS)
        for thing in builtin_things() + [STD, STD_USERS, build.copies(), 3, object(), Build, (build,), [build]]:
            self.check(build, thing, False)
            self.check(Build(((), ())), thing, False)
        self.assertIs(build == Agreeing(), False)


class Length(unittest.TestCase):
    def test_number_of_users(self):
        build = Build(SEEN)
        for many, name in enumerate(EIGHT_USERS):
            self.assertEqual(len(build), many)
            build.enter(name, ("a",) if many % 2 else (), () if many % 2 else ("y",))
        self.assertEqual(len(build), 8)
        self.assertEqual(len(build.copies()), 2)
        build.leave("p")
        self.assertEqual(len(build), 7)
        build.undo()
        self.assertEqual(len(build), 8)


class ManyCalls(unittest.TestCase):
    def test_against_the_definitions(self):
        met = set()
        for at, library in enumerate(walked_libraries(3) + walked_libraries(4)):
            walk = Walk(self, library, at, 8)
            walk.run(60)
            met |= walk.met
        self.assertTrue({
            BadName, TakenName, BadRequest, BadItems, FullBuild, UnknownUser, NothingToUndo, ("stayed", True),
            ("stayed", False), ("copies", 0), ("copies", 1), ("copies", 2), ("copies", 3), ("copies", 4)} <= met, met)

    def test_copies_that_break_up(self):
        # Items that come and go at random, so that the others of a copy often need the user who leaves.
        source = random.Random(5)
        broken = 0
        for at in range(40):
            library = random_table_library(source, without_implied(EIGHT[:source.choice((2, 3))]), ("x", "y"))
            walk = Walk(self, library, 100 + at, 5)
            walk.run(60)
            broken += ("stayed", False) in walk.met
        self.assertGreater(broken, 3)

    def test_additive_libraries_need_one_copy(self):
        source = random.Random(6)
        for size in range(9):
            library = random_additive_library(source, random_manifest(source, size), TWELVE_ITEMS)
            build = Build(library)
            for user in source.sample(Answers(library).random_users(source, EIGHT_USERS), 8):
                self.assertEqual(build.enter(*user), 0)
            for name in source.sample(EIGHT_USERS, 8):
                self.assertEqual(len(build.copies()), 1)
                build.leave(name)
            self.assertEqual(build.copies(), ())

    def test_copies_are_always_a_split(self):
        source = random.Random(7)
        for library in walked_libraries(8):
            build = Build(library)
            users = Answers(library).random_users(source, EIGHT_USERS)
            for user in source.sample(users, 8):
                build.enter(*user)
                self.assertIs(is_split(library, build.users(), tuple(sorted(build.copies()))), True)
            for name in source.sample(EIGHT_USERS, 8):
                build.leave(name)
                self.assertIs(is_split(library, build.users(), tuple(sorted(build.copies()))), True)


class GeneralRules(unittest.TestCase):
    def test_arguments_by_name(self):
        one, other = Build(STD), Build(library=STD)
        self.check_equal(one, other)
        for name, request, items in STD_USERS:
            self.assertEqual(one.enter(name, request, items), other.enter(items=items, request=request, name=name))
            self.check_equal(one, other)
        self.assertEqual(one.features_at(1), other.features_at(number=1))
        self.assertEqual(one.copy_of("q"), other.copy_of(name="q"))
        self.assertEqual(one.leave("q"), other.leave(name="q"))
        self.check_equal(one, other)
        with self.assertRaises(BadLibrary):
            Build(library=None)
        with self.assertRaises(BadItems):
            other.enter(items=None, request=(), name="z")

    def check_equal(self, one, other):
        self.assertTrue(one == other)
        self.assertEqual((state_of(one), one.changes()), (state_of(other), other.changes()))

    def test_no_argument_is_changed(self):
        def made():
            return builtin_things() + with_one_list(STD) + [["p"], {"p": ["q"]}, [["alloc"], "std"]]

        things = made()
        build = Build(STD)
        for user in STD_USERS:
            build.enter(*user)
        for thing in things:
            self.assertRaises(BadLibrary, Build, thing)
            self.assertRaises(BadName, build.enter, thing, thing, thing)
            self.assertRaises(BadRequest, build.enter, "z", thing, thing)
            self.assertRaises(BadItems, build.enter, "z", (), thing)
            self.assertRaises(UnknownUser, build.leave, thing)
            self.assertRaises(UnknownUser, build.copy_of, thing)
            if not (type(thing) is int and 0 <= thing < 2):
                self.assertRaises(BadNumber, build.features_at, thing)
        self.assertEqual(things, made())
        names = iter(["alloc", "std"])
        for call in (lambda: Build(names), lambda: build.enter(names, (), ()), lambda: build.enter("z", names, ()),
                     lambda: build.enter("z", (), names), lambda: build.leave(names)):
            self.assertRaises(FeatureError, call)
        self.assertEqual(list(names), ["alloc", "std"])

    def test_what_was_returned_does_not_change(self):
        build = Build(STD)
        build.enter(*STD_USERS[0])
        copies, users = build.copies(), build.users()
        build.enter(*STD_USERS[1])
        build.leave("p")
        self.assertEqual((copies, users), ((("p",),), STD_USERS[:1]))

    def test_two_builds_know_nothing_of_each_other(self):
        one, other = Build(STD), Build(STD)
        one.enter(*STD_USERS[0])
        self.assertEqual((other.copies(), other.users(), len(other), other.changes()), ((), (), 0, 0))
        other.enter("p", ("std",), ())
        self.assertEqual((one.features_at(0), other.features_at(0)), (("alloc",), ("alloc", "std")))
        one.undo()
        self.assertEqual((one.changes(), other.changes()), (0, 1))


if __name__ == "__main__":
    unittest.main()
