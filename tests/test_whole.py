"""What the document promises over the whole program: its interface, its general rules, its guarantees."""

import importlib
import inspect
import itertools
import random
import unittest

from featureunion import errors
from featureunion.always import always, never, settled, with_always, without
from featureunion.builds import Build
from featureunion.copies import cover, is_cover, is_split, serves, split
from featureunion.desk import Desk
from featureunion.formulas import features_of, holds, is_formula, is_name, is_positive
from featureunion.groups import is_clashing, is_users, losses, smallest_harmful, stranger, united
from featureunion.libraries import is_library, lost, version_at, versions, view
from featureunion.manifests import closed_requests, closure, is_manifest, is_request, least_requests
from featureunion.nearest import hull, kernel, plain
from featureunion.steps import breaking_pair, breaking_steps, is_additive, is_additive_above, safe_features
from featureunion.tables import grounds, same_views, table, taken
from featureunion.texts import read_formula, read_library, show_formula, show_library
from support import (
    A, ABC, Answers, EIGHT_USERS, STD, STD_USERS, additive_libraries, all_subsets, libraries_and_users,
    libraries_of_all_sizes, partitions_of, random_manifest, random_table_library, small_libraries, splits_by_trying,
)

INTERFACE = {
    "formulas": {
        "is_name": ["thing"], "is_formula": ["thing"], "features_of": ["formula"], "holds": ["formula", "features"],
        "is_positive": ["formula"]},
    "manifests": {
        "is_manifest": ["thing"], "is_request": ["manifest", "thing"], "closure": ["manifest", "request"],
        "closed_requests": ["manifest"], "least_requests": ["manifest", "request"]},
    "libraries": {
        "is_library": ["thing"], "view": ["library", "request"], "version_at": ["library", "request", "item"],
        "versions": ["library", "item"], "lost": ["library", "request", "more"]},
    "steps": {
        "breaking_steps": ["library"], "is_additive": ["library"], "is_additive_above": ["library", "request"],
        "breaking_pair": ["library"], "safe_features": ["library"]},
    "groups": {
        "is_users": ["library", "thing"], "united": ["library", "users"], "losses": ["library", "users"],
        "smallest_harmful": ["library", "users"], "is_clashing": ["library", "users", "one", "other"],
        "stranger": ["library", "users"]},
    "copies": {
        "split": ["library", "users"], "is_split": ["library", "users", "thing"], "cover": ["library", "users"],
        "is_cover": ["library", "users", "thing"], "serves": ["library", "users", "name"]},
    "always": {
        "always": ["library"], "with_always": ["library", "request"], "never": ["library"],
        "without": ["library", "request"], "settled": ["library"]},
    "nearest": {"plain": ["manifest", "grounds"], "hull": ["library"], "kernel": ["library"]},
    "tables": {
        "table": ["library"], "same_views": ["one", "other"], "grounds": ["library"], "taken": ["one", "other"]},
    "texts": {
        "show_formula": ["formula"], "read_formula": ["text"], "show_library": ["library"], "read_library": ["text"]},
}
METHODS = {
    Build: {
        "__init__": ["library"], "enter": ["name", "request", "items"], "leave": ["name"], "copies": [],
        "features_at": ["number"], "users": [], "copy_of": ["name"], "repack": [], "undo": [], "changes": [],
        "__len__": [], "__eq__": None},
    Desk: {"__init__": ["text"], "say": ["line"]},
}
ERRORS = (
    "BadRequest", "BadUsers", "UnknownUser", "NoHull", "NotAdditive", "BadLibrary", "BadName", "TakenName", "BadItems",
    "BadNumber", "BadText", "BadLine", "OtherManifest", "FullBuild", "NothingToUndo")
FORMULA = ("any", ("not", ("feature", "b")), A)
MANIFEST = STD[0]
# The kernel of STD: an additive library with its manifest.
ADDITIVE = kernel(STD)
# For each function all arguments, by which it is called by position and by name.
CALLS = (
    (is_name, "a"), (is_formula, FORMULA), (features_of, FORMULA), (holds, FORMULA, ("b",)), (is_positive, FORMULA),
    (is_manifest, MANIFEST), (is_request, MANIFEST, ("alloc",)), (closure, MANIFEST, ("std",)),
    (closed_requests, MANIFEST), (least_requests, MANIFEST, ("alloc", "std")), (is_library, STD), (view, STD, ("std",)),
    (version_at, STD, ("std",), "lock"), (versions, STD, "lock"), (lost, STD, ("alloc",), ("std",)),
    (breaking_steps, STD), (is_additive, STD), (is_additive_above, STD, ("std",)), (breaking_pair, STD),
    (safe_features, STD), (is_users, STD, STD_USERS), (united, STD, STD_USERS), (losses, STD, STD_USERS),
    (smallest_harmful, STD, STD_USERS), (is_clashing, STD, STD_USERS, "p", "q"), (stranger, STD, STD_USERS[:1]),
    (split, STD, STD_USERS), (is_split, STD, STD_USERS, (("p", "r"), ("q",))), (cover, STD, STD_USERS),
    (is_cover, STD, STD_USERS, (("alloc",), ("alloc", "std"))), (serves, STD, STD_USERS, "p"), (always, STD),
    (with_always, STD, ("alloc",)), (never, STD), (without, STD, ("std",)), (settled, STD),
    (plain, MANIFEST, (("x", 1, (("alloc",), ("nostd",))),)), (hull, ADDITIVE), (kernel, STD), (table, STD),
    (same_views, STD, ADDITIVE), (grounds, ADDITIVE), (taken, STD, ADDITIVE), (show_formula, FORMULA),
    (read_formula, "any(not(b), a)"), (show_library, STD), (read_library, show_library(STD)))


def full_build():
    build = Build(STD)
    for name in EIGHT_USERS:
        build.enter(name, (), ())
    return build


def build_with(users):
    build = Build(STD)
    for user in users:
        build.enter(*user)
    return build


def raising_calls():
    """For each error, calls that the document names for it, with the value that it keeps (None: it keeps none)."""
    bad, build = ["a"], build_with(STD_USERS)
    bad_users = [(function, STD, bad) for function in (united, losses, smallest_harmful, stranger, split, cover)]
    bad_users += [(is_clashing, STD, bad, "p", "p"), (is_split, STD, bad, ()), (is_cover, STD, bad, ()),
                  (serves, STD, bad, "p")]
    bad_requests = [(closure, MANIFEST, bad), (least_requests, MANIFEST, bad)]
    bad_requests += [(function, STD, bad) for function in (view, is_additive_above, with_always, without)]
    bad_requests += [(version_at, STD, bad, "lock"), (lost, STD, bad, ()), (lost, STD, (), bad),
                     (build.enter, "z", bad, ())]
    unknown = [(is_clashing, STD, STD_USERS, bad, "p"), (is_clashing, STD, STD_USERS, "p", bad),
               (serves, STD, STD_USERS, bad), (build.leave, bad), (build.copy_of, bad)]
    desk = Desk(show_library(STD))
    return {
        "BadRequest": [(call, bad) for call in bad_requests] + [((desk.say, "view x,a"), ("x", "a"))],
        "BadUsers": [(call, bad) for call in bad_users],
        "UnknownUser": [(call, bad) for call in unknown] + [((desk.say, "leave p"), "p")],
        "NoHull": [((hull, STD), "lock")],
        "NotAdditive": [((grounds, STD), ((), "std", "panic"))],
        "BadLibrary": [((Build, bad), bad)],
        "BadName": [((build.enter, bad, (), ()), bad)],
        "TakenName": [((build.enter, "p", (), ()), "p")],
        "BadItems": [((build.enter, "z", (), bad), bad), ((desk.say, "enter p - x"), ("x",))],
        "BadNumber": [((build.features_at, bad), bad), ((desk.say, "built 7"), 7)],
        "BadText": [((read_formula, bad), bad), ((read_library, bad), 0), ((read_library, "item x"), 1),
                    ((Desk, bad), 0)],
        "BadLine": [((desk.say, bad), bad)],
        "OtherManifest": [((taken, STD, (ABC, ())), None)],
        "FullBuild": [((full_build().enter, "z", (), ()), None)],
        "NothingToUndo": [((Build(STD).undo,), None), ((desk.say, "undo"), None)],
    }


class Interface(unittest.TestCase):
    def test_functions(self):
        for module, functions in INTERFACE.items():
            for name, parameters in functions.items():
                with self.subTest(module=module, name=name):
                    function = getattr(importlib.import_module("featureunion." + module), name)
                    self.assertEqual(list(inspect.signature(function).parameters), parameters)
                    self.assertEqual(function.__module__, "featureunion." + module)

    def test_methods_stand_in_the_class_itself(self):
        for owner, methods in METHODS.items():
            for name, parameters in methods.items():
                with self.subTest(owner=owner, name=name):
                    self.assertIn(name, vars(owner))
                    if parameters is not None:
                        self.assertEqual(list(inspect.signature(vars(owner)[name]).parameters)[1:], parameters)

    def test_errors(self):
        for name in ERRORS:
            self.assertEqual(getattr(errors, name).__bases__, (errors.FeatureError,))


class GeneralRules(unittest.TestCase):
    def test_every_function_is_called(self):
        called = {call[0].__name__ for call in CALLS}
        self.assertEqual(called, {name for functions in INTERFACE.values() for name in functions})

    def test_arguments_by_name_in_another_order(self):
        names = {name: parameters for functions in INTERFACE.values() for name, parameters in functions.items()}
        for function, *arguments in CALLS:
            by_position = function(*arguments)
            parameters = names[function.__name__]
            for order in itertools.permutations(zip(parameters, arguments)):
                with self.subTest(function=function.__name__, order=order):
                    self.assertEqual(function(**dict(order)), by_position)
            for many in range(len(arguments)):
                rest = dict(list(zip(parameters, arguments))[many:][::-1])
                self.assertEqual(function(*arguments[:many], **rest), by_position)

    def test_methods_by_name_in_another_order(self):
        for order in itertools.permutations(zip(("name", "request", "items"), ("z", ("std",), ("vec",)))):
            build, other = build_with(STD_USERS), build_with(STD_USERS)
            self.assertEqual(build.enter(**dict(order)), other.enter("z", ("std",), ("vec",)))
            self.assertTrue(build == other)
            self.assertEqual(build.features_at(number=1), other.features_at(1))
            self.assertEqual(build.copy_of(name="z"), other.copy_of("z"))
            self.assertEqual(build.leave(name="q"), other.leave("q"))
            self.assertTrue(build == other)
        self.assertTrue(Build(library=STD) == Build(STD))
        text = show_library(STD)
        self.assertEqual(Desk(text=text).say(line="view std"), Desk(text).say("view std"))

    def test_equal_calls_return_equal_results(self):
        first = [call[0](*call[1:]) for call in CALLS]
        self.assertEqual([call[0](*call[1:]) for call in CALLS[::-1]][::-1], first)
        self.assertEqual([call[0](*call[1:]) for call in CALLS], first)

    def test_only_described_kinds_are_returned(self):
        def kinds(value):
            return {type(value)}.union(*(kinds(part) for part in value)) if isinstance(value, tuple) else {type(value)}

        for function, *arguments in CALLS:
            with self.subTest(function=function.__name__):
                self.assertTrue(kinds(function(*arguments)) <= {int, str, tuple, bool, type(None)})

    def test_questions_are_answered_by_booleans(self):
        for function, *arguments in CALLS:
            if function.__name__.startswith("is_") or function in (holds, same_views):
                self.assertIs(type(function(*arguments)), bool)


class Errors(unittest.TestCase):
    def test_each_one_is_raised_where_the_document_says(self):
        calls = raising_calls()
        self.assertEqual(set(calls), set(ERRORS))
        for name in ERRORS:
            for (function, *arguments), value in calls[name]:
                with self.subTest(name=name, function=function):
                    with self.assertRaises(errors.FeatureError) as context:
                        function(*arguments)
                    error = context.exception
                    self.assertIs(type(error), getattr(errors, name))
                    self.assertIsInstance(error, ValueError)
                    for other in ERRORS:
                        self.assertEqual(isinstance(error, getattr(errors, other)), other == name)
                    if name not in ("OtherManifest", "FullBuild", "NothingToUndo"):
                        self.assertEqual(error.value, value)
                        self.assertIs(type(error.value), type(value))
                        if isinstance(value, list):
                            self.assertIs(error.value, value)

    def test_a_call_that_raises_changes_nothing(self):
        before = [call[0](*call[1:]) for call in CALLS]
        for calls in raising_calls().values():
            for (function, *arguments), _ in calls:
                self.assertRaises(errors.FeatureError, function, *arguments)
        self.assertEqual([call[0](*call[1:]) for call in CALLS], before)


def everything_seen(answers, request):
    return tuple(item for item, _ in answers.view(request))


class Guarantees(unittest.TestCase):
    def test_a_steps(self):
        source = random.Random(1)
        additive = 0
        for library in small_libraries()[::2] + libraries_of_all_sizes(2) + additive_libraries(3)[:36]:
            answers = Answers(library)
            pair = breaking_pair(library)
            self.assertIs(pair is None, is_additive(library))
            if pair is None:
                additive += 1
                for _ in range(5):
                    users = tuple((name, request, everything_seen(answers, request)) for name, request in zip(
                        EIGHT_USERS, [source.choice(answers.requests) for _ in range(source.randrange(9))]))
                    self.assertEqual(losses(library, users), ())
                    self.assertIsNone(smallest_harmful(library, users))
                    self.assertEqual(len(split(library, users)), min(len(users), 1))
            else:
                request, feature, item = pair
                users = (("p", request, (item,)), ("q", (feature,), ()))
                self.assertEqual(losses(library, users), (("p", item),))
                self.assertIs(is_clashing(library, users, "p", "q"), True)
                self.assertEqual(len(split(library, users)), 2)
        self.assertGreater(additive, 50)

    def test_b_safe_features(self):
        for library in small_libraries()[::3]:
            answers = Answers(library)
            for feature in answers.features:
                lost_by_it = any(answers.lost(request, (feature,)) for request in answers.requests)
                self.assertIs(feature in safe_features(library), not lost_by_it)

    def test_c_and_d_groups_and_copies_of_small_cases(self):
        source = random.Random(4)
        for _ in range(60):
            library = random_table_library(source, random_manifest(source, source.choice((1, 2, 3))), ("x", "y"))
            answers = Answers(library)
            users = answers.random_users(source, ("p", "q", "r", "s")[:source.randrange(5)])
            by_name = {user[0]: user for user in users}
            harmful = [names for names in all_subsets(tuple(by_name))
                       if answers.losses([by_name[name] for name in names])]
            strangers = [request for request in answers.requests if answers.losses(users + (("z", request, ()),))]
            self.assertEqual(losses(library, users), answers.losses(users))
            self.assertEqual(smallest_harmful(library, users), harmful[0] if harmful else None)
            self.assertEqual(stranger(library, users), strangers[0] if strangers else None)
            self.assertEqual(split(library, users), splits_by_trying(answers, users)[0])
            for groups in partitions_of(tuple(by_name)):
                self.assertIs(is_split(library, users, groups), not set(groups) & set(harmful))
            served = [set(serves(library, users, name)) for name in by_name]
            covers = [requests for size in range(5) for requests in itertools.combinations(answers.closed, size)
                      if all(serving & set(requests) for serving in served)]
            self.assertEqual(cover(library, users), covers[0])
            self.assertLessEqual(len(covers[0]), len(split(library, users)))

    def test_e_always_and_never(self):
        for library in small_libraries()[::9]:
            answers = Answers(library)
            on = {request for request in answers.requests if is_additive(with_always(library, request))}
            off = {request for request in answers.requests if is_additive(without(library, request))}
            for good, returned in ((on, always(library)), (off, never(library))):
                fewest = min(map(len, good))
                self.assertEqual(returned, tuple(sorted(request for request in good if len(request) == fewest)))
                for request, greater in itertools.product(good, answers.requests):
                    self.assertTrue(greater in good or not set(request) <= set(greater))
            for request in answers.requests:
                self.assertIs(is_additive_above(library, request), request in on)
            for one, other in settled(library):
                self.assertIs(is_additive(with_always(without(library, other), one)), True)

    def test_f_hull_and_kernel(self):
        hulls = 0
        for library in small_libraries()[::3] + libraries_of_all_sizes(5):
            self.assertIs(is_additive(kernel(library)), True)
            self.assertIsNone(taken(kernel(library), library))
            self.assertIs(same_views(library, kernel(library)), is_additive(library))
            if all(len(versions(library, item)) < 2 for item, _ in library[1]):
                self.assertIs(is_additive(hull(library)), True)
                self.assertIsNone(taken(library, hull(library)))
                hulls += 1
            else:
                self.assertRaises(errors.NoHull, hull, library)
        self.assertGreater(hulls, 30)

    def test_g_grounds(self):
        for library in additive_libraries(6):
            found = grounds(library)
            self.assertIs(same_views(plain(library[0], found), library), True)
            self.assertEqual(grounds(plain(library[0], found)), found)
            for item, version, requests in found:
                self.assertEqual(versions(library, item), (version,))
                for closed in closed_requests(library[0]):
                    contained = any(set(request) <= set(closed) for request in requests)
                    self.assertEqual(version_at(library, closed, item), version if contained else None)

    def test_h_builds(self):
        source = random.Random(7)
        for library, answers, users in libraries_and_users(7, 1):
            build = Build(library)
            waiting = source.sample(users, len(users)) * 2
            for user in waiting:
                if user in build.users():
                    build.leave(user[0])
                else:
                    build.enter(*user)
                if not source.randrange(4):
                    source.choice((build.repack, build.undo))()
                for names in build.copies():
                    group = tuple(other for other in build.users() if other[0] in names)
                    self.assertEqual(answers.losses(group), ())
                self.assertEqual(sorted(sum(build.copies(), ())), [name for name, _, _ in build.users()])

    def test_i_texts_and_the_desk(self):
        for library in libraries_of_all_sizes(8):
            text = show_library(library)
            self.assertEqual(read_library(text), library)
            for _, rows in library[1]:
                for formula, _ in rows:
                    self.assertEqual(read_formula(show_formula(formula)), formula)
            desk = Desk(text)
            self.assertEqual(desk.say("steps"), str(len(breaking_steps(library))))
            self.assertEqual(desk.say("safe"), ",".join(safe_features(library)) or "-")
            self.assertEqual(desk.say("view -"), ", ".join(f"{item} {at}" for item, at in view(library, ())) or "-")


if __name__ == "__main__":
    unittest.main()
