"""Features that are always built, or never, so that nothing is lost any more."""

from featureunion.errors import BadRequest
from featureunion.formulas import parts_of
from featureunion.manifests import (
    all_requests, closed_over, closure, features_in, is_request, is_within, least_among, subsets_of,
)
from featureunion.steps import breaking_steps

HOLDS_ALWAYS = ("all",)
HOLDS_NEVER = ("any",)


def replaced_in(formula, features, other):
    """Return a formula in which another one stands in the place of each of these features."""
    if formula[0] == "feature":
        return other if formula[1] in features else formula
    return (formula[0],) + tuple([replaced_in(part, features, other) for part in parts_of(formula)])


def replaced_in_items(items, features, other):
    """Return items in whose formulas another one stands in the place of each of these features."""
    return tuple([(item, tuple([(replaced_in(formula, features, other), version) for formula, version in rows]))
                  for item, rows in items])


def with_always(library, request):
    """Return the library in which a request is always built."""
    manifest, items = library
    return (manifest, replaced_in_items(items, closure(manifest, request), HOLDS_ALWAYS))


def without(library, request):
    """Return the library without the features of a request and without all that imply one of them."""
    manifest, items = library
    if not is_request(manifest, request):
        raise BadRequest(request)
    gone = [feature for feature in features_in(manifest) if have_common(closed_over(manifest, (feature,)), request)]
    # What stays implies nothing that is gone: otherwise it would be gone itself.
    rest = tuple([pair for pair in manifest if pair[0] not in gone])
    return (rest, replaced_in_items(items, gone, HOLDS_NEVER))


def have_common(one, other):
    """Return whether two requests have a common feature."""
    return any([feature in other for feature in one])


def broken_spans(library):
    """Return the list of all pairs of closed requests of which a breaking step leads from the first to the second."""
    spans = [(closed, closed_over(library[0], closed + (feature,)))
             for closed, feature, item in breaking_steps(library)]
    return sorted(set(spans))


def ends_above(spans, request):
    """Return the least requests to which spans lead from closed requests that contain this one."""
    return least_among(sorted({end for start, end in spans if is_within(request, start)}))


def is_hit(ends, request):
    """Return whether each of these ends has a feature of a request, so that no step leads there without them."""
    return all([have_common(end, request) for end in ends])


def with_fewest(requests):
    """Return the tuple of those requests, given by their number of features, that have as few as possible."""
    return tuple([request for request in requests if len(request) == len(requests[0])])


def always(library):
    """Return all requests with as few features as possible above which a library is additive, ascending."""
    spans = broken_spans(library)
    return with_fewest([on for on in all_requests(library[0]) if len(ends_above(spans, on)) == 0])


def never(library):
    """Return all requests with as few features as possible without which a library is additive, ascending."""
    ends = ends_above(broken_spans(library), ())
    return with_fewest([off for off in all_requests(library[0]) if is_hit(ends, off)])


def settled(library):
    """Return all pairs (on, off) with as few features as possible with which a library is additive, ascending."""
    manifest = library[0]
    spans = broken_spans(library)
    found = []
    for on in all_requests(manifest):
        closed = closed_over(manifest, on)
        free = tuple([feature for feature in features_in(manifest) if feature not in closed])
        ends = ends_above(spans, on)
        found.extend([(on, off) for off in subsets_of(free) if is_hit(ends, off)])
    fewest = min([len(on) + len(off) for on, off in found])
    return tuple(sorted([(on, off) for on, off in found if len(on) + len(off) == fewest]))
