"""What several tests need: objects of many kinds, manifests, and answers found by trying all."""

import itertools
import random
import re


class Plain:
    """A class of the tests' own, whose objects are of no kind that the program knows."""


class Agreeing:
    """Its objects say of every object that they are equal to it, and of every name that they contain it."""

    def __eq__(self, other):
        return True

    def __ne__(self, other):
        return False

    def __lt__(self, other):
        return True

    def __hash__(self):
        return hash("a")

    def __contains__(self, other):
        return True

    def __len__(self):
        return 2

    def __getitem__(self, at):
        return "a"


class Refusing:
    """Its objects cannot be compared, tested, counted, iterated over or put into a set."""

    __hash__ = None

    def __eq__(self, other):
        raise RuntimeError("not comparable")

    __ne__ = __lt__ = __le__ = __gt__ = __ge__ = __contains__ = __getitem__ = __eq__

    def __bool__(self):
        raise RuntimeError("neither true nor false")

    __len__ = __iter__ = __bool__


def wrapped(thing, depth, wrap):
    for _ in range(depth):
        thing = wrap(thing)
    return thing


def deep_things(depth):
    """Tuples, lists and dicts that are nested so deep."""
    return [
        wrapped(7, depth, lambda inner: (inner,)),
        wrapped("a", depth, lambda inner: [inner]),
        wrapped("a", depth, lambda inner: {"a": inner}),
        wrapped(None, depth // 2, lambda inner: ([inner],)),
        wrapped(("feature", "a"), depth - 1, lambda inner: ("not", inner)),
        wrapped(("feature", "a"), depth - 1, lambda inner: ("all", inner)),
        wrapped(["feature", "a"], depth - 1, lambda inner: ["any", inner]),
        wrapped((), depth - 1, lambda inner: ("a", inner)),
        wrapped((("a", ()),), depth // 2 - 1, lambda inner: (("a", inner),)),
    ]


def builtin_things():
    """Objects that can be compared with equal ones that were made by another call.

    They are nested at most 28 deep, so that a test may put them into one or two tuples more.
    """
    return [
        0, 1, -1, 7, 10 ** 30, True, False, None, Ellipsis,
        "", " ", "A", "a b", "a\n", "feature a", "abcdefghi",
        b"", b"a", b"feature", bytearray(b"a"),
        [], ["a"], ["feature", "a"], [("a", ())], [["a", []]], [[]], [None],
        {}, {"a": ()}, {"a": {"b": [1]}}, {1: "feature"}, {("a",): []},
        set(), {"a"}, {"a", "b"}, frozenset(), frozenset({"a"}),
        (None,), (1,), (True,), ("A",), ("",), (b"a",), ((),), ([],), ({},), ({"a"},),
        ("a", 1), (1, "a"), ("a", None), (None, "a"), ("a", []), ([], "a"), ("a", {}), (set(), "b"),
        (1, 2, 3), (1, (2, (3, (4, ())))), ((((("a",),),),),), (("a",), ["b"]), (("a", "b"), "c"),
        range(3), slice(1, 2),
    ] + deep_things(28)


def other_things():
    """Objects that are neither names, formulas, manifests nor requests, of whatever kind."""
    kinds = [object(), Plain(), Plain, str, tuple, len, other_things, lambda: "a", ValueError("a")]
    iterators = [iter(("a",)), iter([]), (letter for letter in "ab"), {"a": 1}.keys(), memoryview(b"a")]
    packed = [(object(),), ("a", Plain()), (Plain(), "a"), (iter("a"),), (len, str)]
    comparing = [Agreeing(), Refusing()]
    comparing += [pair for thing in comparing for pair in ((thing,), ("a", thing), (thing, "a"), (thing, thing))]
    return builtin_things() + kinds + iterators + packed + comparing


def no_requests():
    """Things that are no requests of a manifest with the features a, b and c, of any kind."""
    return other_things() + deep_things(30) + [
        "a", "ab", "abc", ["a"], ["a", "b"], [], {"a": 1}, {"a"}, b"a",
        ("b", "a"), ("a", "c", "b"), ("c", "b", "a"), ("b", "c", "a"),
        ("a", "a"), ("a", "b", "b"), ("a", "a", "b"), ("a", "b", "a"),
        ("d",), ("a", "d"), ("a", "b", "c", "d"), ("aa",), ("A",), ("a", "aa", "b"), ("",), ("a ",), ("a\n",),
        ("ab",), ("a,b",), (("a",),), ("a", ("b",)), (["a"],), ("a", ["b"]), ("a", {"b": 1}), ("a", {"b"}),
        ("a", None), (None, "a"), (1,), ("a", 1), (0, "a"), (True,), ("a", True), (b"a",), ("a", b"b"),
        (("a", ()),), (("a", ()), ("b", ()), ("c", ())), ((),), ("a", ()),
    ]


def all_subsets(names):
    """All subsets of ascending names, by their number of names, then ascending."""
    return [chosen for size in range(len(names) + 1) for chosen in itertools.combinations(names, size)]


def features_in(manifest):
    return tuple(feature for feature, _ in manifest)


def is_closed(manifest, request):
    return all(set(implied) <= set(request) for feature, implied in manifest if feature in request)


def closed_by_trying(manifest):
    return tuple(request for request in all_subsets(features_in(manifest)) if is_closed(manifest, request))


def closure_by_trying(manifest, request):
    """The common part of all closed requests that contain this one."""
    greater = [set(closed) for closed in closed_by_trying(manifest) if set(request) <= set(closed)]
    return tuple(sorted(set.intersection(*greater)))


def manifests_of(names):
    """All manifests with just these features."""
    choices = [all_subsets(tuple(name for name in names if name != feature)) for feature in names]
    return [tuple(zip(names, implied)) for implied in itertools.product(*choices)]


def chosen_manifests(names, many, seed):
    """Some manifests with just these features, some with few and some with many implied ones."""
    source = random.Random(seed)
    found = []
    for at in range(many):
        share = (at % 4 + 1) * 8
        found.append(tuple(
            (feature, tuple(name for name in names if name != feature and source.randrange(100) < share))
            for feature in names))
    return found


def chain_up(names):
    """Each feature implies the next one."""
    return tuple(zip(names, [(name,) for name in names[1:]] + [()]))


def chain_down(names):
    """Each feature implies the one before it."""
    return tuple(zip(names, [()] + [(name,) for name in names[:-1]]))


def ring(names):
    """Each feature implies the next one, and the last one implies the first."""
    return tuple(zip(names, [(name,) for name in names[1:] + names[:1]]))


def without_implied(names):
    return tuple((name, ()) for name in names)


def replaced_at(whole, at, part):
    return whole[:at] + (part,) + whole[at + 1:]


def with_one_list(thing):
    """All things that have a list in the place of one of the tuples of a thing, at any depth."""
    if not isinstance(thing, tuple):
        return []
    found = [list(thing)]
    for at, part in enumerate(thing):
        found += [replaced_at(thing, at, changed) for changed in with_one_list(part)]
    return found


def with_one_other(thing, other):
    """All things that have another object in the place of one of the parts of a thing, at any depth, or of all."""
    found = [other]
    if isinstance(thing, tuple):
        for at, part in enumerate(thing):
            found += [replaced_at(thing, at, changed) for changed in with_one_other(part, other)]
    return found


def random_formula(source, names, depth):
    """A formula at most so deep over the names, of which there may be none."""
    leaves = [("all",), ("any",)] + [("feature", name) for name in names] * 3
    word = source.choice(("feature", "not", "all", "any"))
    if depth == 1 or word == "feature":
        return source.choice(leaves)
    many = 1 if word == "not" else source.randrange(4)
    return (word, *(random_formula(source, names, depth - 1) for _ in range(many)))


def holds_by_definition(formula, features):
    word, *parts = formula
    if word == "feature":
        return parts[0] in features
    answers = [holds_by_definition(part, features) for part in parts]
    return {"not": answers[:1] == [False], "all": False not in answers, "any": True in answers}[word]


EIGHT = ("a", "b", "c", "d", "e", "f", "g", "h")
TWELVE_ITEMS = ("a", "aa", "ab", "b", "ba", "c", "lock", "panic", "vec", "x", "y", "zzzzzzzz")


def random_library(source, manifest, items):
    """A library with these items, each of 1 to 6 rows with few versions, so that some are equal."""
    names = features_in(manifest)
    return (manifest, tuple(
        (item, tuple((random_formula(source, names, 1 + source.randrange(4)), source.choice((0, 1, 1, 2, 99)))
                     for _ in range(source.choice((1, 1, 2, 3, 6)))))
        for item in items))


def exactly(names, subset):
    """A formula that holds for just this subset of the names."""
    parts = [("feature", name) if name in subset else ("not", ("feature", name)) for name in names]
    return ("all", *parts)


def library_with(manifest, tables):
    """The library whose items have at each set of features the version that stands in their tables (None: absent)."""
    names = features_in(manifest)
    items = []
    for item, seen in sorted(tables.items()):
        some = sorted(set(seen.values()) - {None}) or [7]
        items.append((item, tuple(
            (("any", *(exactly(names, subset) for subset in seen if seen[subset] == version)), version)
            for version in some)))
    return (manifest, tuple(items))


def one_item_libraries(manifest, versions):
    """All libraries of a manifest with one item, told apart by its version at each set of features."""
    subsets = all_subsets(features_in(manifest))
    return [library_with(manifest, {"x": dict(zip(subsets, chosen))})
            for chosen in itertools.product(versions, repeat=len(subsets))]


def random_table_library(source, manifest, items):
    subsets = all_subsets(features_in(manifest))
    return library_with(manifest, {item: {subset: source.choice((None, 1, 1, 2)) for subset in subsets}
                                   for item in items})


def random_additive_library(source, manifest, items):
    """A library whose items have one version each and formulas without not."""
    names = features_in(manifest)

    def part():
        return ("all", *(("feature", name) for name in names if source.randrange(3) == 0))

    return (manifest, tuple((item, ((("any", part(), part()), source.randrange(100)),)) for item in items))


def gone_with(*features):
    """Rows of an item that is gone where all these features are."""
    return ((("not", ("all", *(("feature", feature) for feature in features))), 1),)


def random_fragile_library(source, manifest, items):
    """A library whose items are there until two or three features come together."""
    names = features_in(manifest)
    return (manifest, tuple((item, gone_with(*source.sample(names, source.choice((2, 3))))) for item in items))


def random_manifest(source, size):
    names = EIGHT[:size]
    made = chosen_manifests(names, 4, source.randrange(1000))
    return source.choice(made + [without_implied(names)] * 2)


def small_libraries():
    """All libraries of one item and at most two features, and some of three features and several items."""
    found = one_item_libraries((), (None, 1)) + one_item_libraries((("a", ()),), (None, 1, 2))
    for manifest in manifests_of(("a", "b")):
        found += one_item_libraries(manifest, (None, 1, 2))
    source = random.Random(20)
    for manifest in manifests_of(("a", "b", "c")):
        found.append(random_table_library(source, manifest, ("x",)))
        found.append(random_table_library(source, manifest, ("x", "y")))
        found.append(random_library(source, manifest, ("w", "x", "y")))
        found.append(random_additive_library(source, manifest, ("x", "y")))
    return found


def libraries_of_all_sizes(seed):
    """Random libraries of none to eight features and none to twelve items."""
    source = random.Random(seed)
    found = []
    for size in range(9):
        for many in (0, 1, 2, 5, 12):
            found.append(random_library(source, random_manifest(source, size), TWELVE_ITEMS[:many]))
        found.append(random_additive_library(source, random_manifest(source, size), TWELVE_ITEMS))
        if size > 2:
            found.append(random_fragile_library(source, without_implied(EIGHT[:size]), TWELVE_ITEMS[:3]))
            found.append(random_fragile_library(source, random_manifest(source, size), TWELVE_ITEMS))
    rings = [ring(EIGHT[:size]) for size in (2, 3, 5)] + [chain_up(EIGHT[:6]), chain_down(EIGHT[:6])]
    return found + [random_library(source, manifest, TWELVE_ITEMS[::2]) for manifest in rings]


class Answers:
    """What the definitions say of a library, worked out from its rows by trying all requests."""

    def __init__(self, library):
        self.manifest, self.items = library
        self.features = features_in(self.manifest)
        self.requests = all_subsets(self.features)
        self.closed = closed_by_trying(self.manifest)
        self.closures = {request: self.least_closed(request) for request in self.requests}
        self.views = {closed: self.pairs_at(closed) for closed in self.closed}

    def least_closed(self, request):
        return next(closed for closed in self.closed if set(request) <= set(closed))

    def pairs_at(self, closed):
        found = []
        for item, rows in self.items:
            holding = [version for formula, version in rows if holds_by_definition(formula, closed)]
            found += [(item, version) for version in holding[:1]]
        return tuple(found)

    def closure(self, *requests):
        return self.closures[tuple(sorted(set().union(*requests)))]

    def view(self, *requests):
        """The view at these requests together."""
        return self.views[self.closure(*requests)]

    def lost(self, request, more):
        return tuple(pair for pair in self.view(request) if pair not in self.view(request, more))

    def breaking_steps(self):
        found = []
        for closed, feature in itertools.product(self.closed, self.features):
            before, after = dict(self.view(closed)), dict(self.view(closed, (feature,)))
            if feature not in closed:
                found += [(closed, feature, item) for item in before if before[item] != after.get(item)]
        return tuple(sorted(found, key=lambda step: (len(step[0]), step)))

    def losses(self, users):
        there = dict(self.view(*(request for _, request, _ in users)))
        found = []
        for name, request, items in users:
            own = dict(self.view(request))
            found += [(name, item) for item in items if there.get(item) != own[item]]
        return tuple(sorted(found))

    def random_users(self, source, names):
        """Users with these names, some of which rely on much and ask for little."""
        found = []
        for name in names:
            request = tuple(feature for feature in self.features if source.randrange(3) == 0)
            seen = [item for item, _ in self.view(request)]
            share = source.choice((0, 1, 2, 4))
            found.append((name, request, tuple(item for item in seen if source.randrange(4) < share)))
        return tuple(found)


A, B, C = ("feature", "a"), ("feature", "b"), ("feature", "c")
ALWAYS, NEVER = ("all",), ("any",)
STD_FEATURE, ALLOC = ("feature", "std"), ("feature", "alloc")
STD = ((("alloc", ()), ("nostd", ()), ("std", ("alloc",))), (
    ("lock", ((STD_FEATURE, 2), (ALLOC, 1))), ("panic", ((("not", STD_FEATURE), 1),)), ("vec", ((ALLOC, 1),))))
STD_USERS = (("p", ("alloc",), ("lock",)), ("q", ("std",), ("vec",)), ("r", (), ("panic",)))
ABC = without_implied(("a", "b", "c"))
# At a: w, x; without a: x, y; z is never seen.
SEEN = (ABC, (("w", ((A, 1),)), ("x", ((A, 2), (ALWAYS, 1))), ("y", ((("not", A), 1),)), ("z", ((NEVER, 1),))))
EIGHT_USERS = ("a", "aa", "b", "bob", "c", "lock", "p", "zzzzzzzz")


def names_of(users):
    return tuple(user[0] for user in users)


def no_users():
    """Things that are no users of the library SEEN, of any kind."""
    good = (("p", ("a",), ("w",)), ("q", (), ("x",)))
    return other_things() + deep_things(30) + with_one_list(good) + [
        good[::-1], good[:1] * 2, good[0], "p", [], {"p": (("a",), ("w",))}, (("p",),), (("p", ()),),
        (("p", (), (), ()),), (("P", (), ()),), (("p", ("d",), ()),), (("p", ("b", "a"), ()),), (("p", "", ()),),
        (("p", (), ("w",)),), (("p", ("a",), ("y",)),), (("p", (), ("y", "x")),), (("p", (), ("x", "x")),),
        (("p", (), ("none",)),), (("p", (), "x"),), tuple((name, (), ()) for name in "abcdefghi"),
    ]


def no_names():
    """Things that are no names of the users p and q, of any kind."""
    return other_things() + deep_things(30) + [
        "r", "", "P", "pp", "p ", "pq", b"p", ("p",), ["p"], {"p"}, {"p": 1}, ("p", "q"), ("p", (), ()), None, 0,
        True, (),
    ]


def libraries_and_users(seed, many):
    """Libraries of all sizes, their answers, and users of them: none to eight."""
    source = random.Random(seed)
    for library in libraries_of_all_sizes(seed):
        answers = Answers(library)
        for _ in range(many):
            yield library, answers, answers.random_users(source, EIGHT_USERS[:source.randrange(9)])


def partitions_of(names):
    """All partitions of ascending names into ascending groups, each partition ascending."""
    if not names:
        return [()]
    found = []
    for others in all_subsets(names[1:]):
        rest = tuple(name for name in names[1:] if name not in others)
        found += [((names[0],) + others,) + groups for groups in partitions_of(rest)]
    return found


def splits_by_trying(answers, users):
    """All partitions of users into harmless groups, by their number of groups, then ascending."""
    by_name = {user[0]: user for user in users}
    harmless = {names for names in all_subsets(tuple(by_name))
                if not answers.losses([by_name[name] for name in names])}
    found = [groups for groups in partitions_of(names_of(users)) if harmless.issuperset(groups)]
    return sorted(found, key=lambda groups: (len(groups), groups))


def grounds_by_trying(answers):
    """The items that are ever seen, with their version and the least closed requests at which they are seen."""
    found = []
    for item, _ in answers.items:
        seen = {closed: dict(answers.view(closed))[item] for closed in answers.closed
                if item in dict(answers.view(closed))}
        least = tuple(closed for closed in seen if not any(set(other) < set(closed) for other in seen))
        found += [(item, version, least) for version in sorted(set(seen.values()))]
    return tuple(found)


def additive_libraries(seed):
    """Additive libraries of none to eight features: some of formulas without not, and small ones of all kinds."""
    source = random.Random(seed)

    def rows(names):
        requests = [[("feature", name) for name in names if source.randrange(2)] for _ in range(source.randrange(9))]
        return ((("any", *(("all", *parts) for parts in requests)), source.randrange(100)),)

    found = []
    for size in range(9):
        for many in (0, 1, 5, 12):
            manifest = random_manifest(source, size)
            found.append((manifest, tuple((item, rows(features_in(manifest))) for item in TWELVE_ITEMS[:many])))
    return found + [library for library in small_libraries() if not Answers(library).breaking_steps()]


def formula_by_rules(text):
    """The formula with this text as the document describes it, None if there is none."""
    def read(at, depth):
        """The formula that begins there, how many formulas are in it, and where it ends."""
        word = re.match("[a-z]*", text[at:at + 20]).group()
        end = at + len(word)
        if text[end:end + 1] != "(":
            return (("feature", word), 1, end) if 1 <= len(word) <= 8 and depth <= 10 else None
        if word not in ("not", "all", "any") or depth > 10:
            return None
        if text[end + 1:end + 2] == ")":
            return ((word,), 1, end + 2) if word != "not" else None
        parts, total = [], 1
        while True:
            # Behind the bracket, or behind the comma and the blank.
            found = read(end + 1, depth + 1)
            if found is None:
                return None
            part, many, end = found
            parts.append(part)
            total += many
            if text[end:end + 1] == ")":
                return ((word, *parts), total, end + 1) if word != "not" or len(parts) == 1 else None
            if text[end:end + 2] != ", ":
                return None
            end += 1

    found = read(0, 1)
    return found[0] if found is not None and found[1] <= 400 and found[2] == len(text) else None


def row_by_rules(row):
    """What a row says, None if it does not have the form of a row."""
    name = "[a-z]{1,8}"
    if re.fullmatch(f"feature( {name})+", row):
        _, feature, *implied = row.split(" ")
        return ("feature", feature, tuple(implied))
    if re.fullmatch(f"item {name}", row):
        return ("item", row[5:])
    found = re.fullmatch("(0|[1-9][0-9]?) (.*)", row, re.ASCII)
    formula = formula_by_rules(found.group(2)) if found else None
    return None if formula is None else ("guard", formula, int(found.group(1)))


def library_by_rules(text):
    """The library with this text as the document describes it, the number of BadText if there is none."""
    rows = [row_by_rules(row) for row in text.split("\n")] if text else []
    if None in rows:
        return rows.index(None)
    manifest, items = [], []
    for kind, *told in rows:
        if kind == "feature" and not items:
            manifest.append(tuple(told))
        elif kind == "item":
            items.append((told[0], []))
        elif kind == "guard" and items:
            items[-1][1].append(tuple(told))
        else:
            return len(rows)
    names = [name for name, _ in manifest]
    whole = names == sorted(set(names)) and len(names) <= 8
    whole = whole and all(list(implied) == sorted(set(implied) & set(names) - {name}) for name, implied in manifest)
    whole = whole and [item for item, _ in items] == sorted({item for item, _ in items}) and len(items) <= 12
    whole = whole and all(1 <= len(guards) <= 6 for _, guards in items)
    inner = {name for _, guards in items for formula, _ in guards for name in names_in_formula(formula)}
    whole = whole and inner <= set(names)
    return (tuple(manifest), tuple((item, tuple(guards)) for item, guards in items)) if whole else len(rows)


def names_in_formula(formula):
    word, *parts = formula
    return set(parts) if word == "feature" else set().union(*(names_in_formula(part) for part in parts))
