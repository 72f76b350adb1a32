"""What several tests need: objects of many kinds, manifests, and answers found by trying all."""

import itertools
import random


class Plain:
    """A class of the tests' own, whose objects are of no kind that the program knows."""


def wrapped(thing, depth, wrap):
    for _ in range(depth):
        thing = wrap(thing)
    return thing


def deep_things(depth):
    """Tuples, lists and dicts that are nested so deep."""
    return [
        wrapped(7, depth, lambda inner: (inner,)),
        wrapped("a", depth, lambda inner: [inner]),
        wrapped("a", depth, lambda inner: {"a": inner}),
        wrapped(None, depth // 2, lambda inner: ([inner],)),
        wrapped(("feature", "a"), depth - 1, lambda inner: ("not", inner)),
        wrapped(("feature", "a"), depth - 1, lambda inner: ("all", inner)),
        wrapped(["feature", "a"], depth - 1, lambda inner: ["any", inner]),
        wrapped((), depth - 1, lambda inner: ("a", inner)),
        wrapped((("a", ()),), depth // 2 - 1, lambda inner: (("a", inner),)),
    ]


def builtin_things():
    """Objects that can be compared with equal ones that were made by another call.

    They are nested at most 28 deep, so that a test may put them into one or two tuples more.
    """
    return [
        0, 1, -1, 7, 10 ** 30, True, False, None, Ellipsis,
        "", " ", "A", "a b", "a\n", "feature a", "abcdefghi",
        b"", b"a", b"feature", bytearray(b"a"),
        [], ["a"], ["feature", "a"], [("a", ())], [["a", []]], [[]], [None],
        {}, {"a": ()}, {"a": {"b": [1]}}, {1: "feature"}, {("a",): []},
        set(), {"a"}, {"a", "b"}, frozenset(), frozenset({"a"}),
        (None,), (1,), (True,), ("A",), ("",), (b"a",), ((),), ([],), ({},), ({"a"},),
        ("a", 1), (1, "a"), ("a", None), (None, "a"), ("a", []), ([], "a"), ("a", {}), (set(), "b"),
        (1, 2, 3), (1, (2, (3, (4, ())))), ((((("a",),),),),), (("a",), ["b"]), (("a", "b"), "c"),
        range(3), slice(1, 2),
    ] + deep_things(28)


def other_things():
    """Objects that are neither names, formulas, manifests nor requests, of whatever kind."""
    kinds = [object(), Plain(), Plain, str, tuple, len, other_things, lambda: "a", ValueError("a")]
    iterators = [iter(("a",)), iter([]), (letter for letter in "ab"), {"a": 1}.keys(), memoryview(b"a")]
    packed = [(object(),), ("a", Plain()), (Plain(), "a"), (iter("a"),), (len, str)]
    return builtin_things() + kinds + iterators + packed


def all_subsets(names):
    """All subsets of ascending names, by their number of names, then ascending."""
    return [chosen for size in range(len(names) + 1) for chosen in itertools.combinations(names, size)]


def features_in(manifest):
    return tuple(feature for feature, _ in manifest)


def is_closed(manifest, request):
    return all(set(implied) <= set(request) for feature, implied in manifest if feature in request)


def closed_by_trying(manifest):
    return tuple(request for request in all_subsets(features_in(manifest)) if is_closed(manifest, request))


def closure_by_trying(manifest, request):
    """The common part of all closed requests that contain this one."""
    greater = [set(closed) for closed in closed_by_trying(manifest) if set(request) <= set(closed)]
    return tuple(sorted(set.intersection(*greater)))


def manifests_of(names):
    """All manifests with just these features."""
    choices = [all_subsets(tuple(name for name in names if name != feature)) for feature in names]
    return [tuple(zip(names, implied)) for implied in itertools.product(*choices)]


def chosen_manifests(names, many, seed):
    """Some manifests with just these features, some with few and some with many implied ones."""
    source = random.Random(seed)
    found = []
    for at in range(many):
        share = (at % 4 + 1) * 8
        found.append(tuple(
            (feature, tuple(name for name in names if name != feature and source.randrange(100) < share))
            for feature in names))
    return found


def chain_up(names):
    """Each feature implies the next one."""
    return tuple(zip(names, [(name,) for name in names[1:]] + [()]))


def chain_down(names):
    """Each feature implies the one before it."""
    return tuple(zip(names, [()] + [(name,) for name in names[:-1]]))


def ring(names):
    """Each feature implies the next one, and the last one implies the first."""
    return tuple(zip(names, [(name,) for name in names[1:] + names[:1]]))


def without_implied(names):
    return tuple((name, ()) for name in names)
