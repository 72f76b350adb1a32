"""Libraries: items that are guarded by formulas, and what is seen of them at a request."""

from featureunion.errors import BadRequest
from featureunion.formulas import features_of, holds, is_formula
from featureunion.manifests import (
    are_ascending_names, closed_over, closed_requests, closure, features_in, is_manifest, is_request, is_tuple_of,
)

MOST_ITEMS = 12
MOST_ROWS = 6
GREATEST_VERSION = 99


def is_version(thing):
    """Return, of anything, whether it is a version."""
    # True and False are no versions, although they are integers for Python.
    if not isinstance(thing, int) or isinstance(thing, bool):
        return False
    return 0 <= thing <= GREATEST_VERSION


def is_row(features, thing):
    """Return, of anything as thing, whether it is a pair of a formula over these features and a version."""
    if not is_tuple_of(2, thing) or not is_formula(thing[0]) or not is_version(thing[1]):
        return False
    return all([name in features for name in features_of(thing[0])])


def are_rows(features, thing):
    """Return, of anything as thing, whether an item can have it as its rows."""
    if not isinstance(thing, tuple) or not 1 <= len(thing) <= MOST_ROWS:
        return False
    return all([is_row(features, row) for row in thing])


def are_items(features, thing):
    """Return, of anything as thing, whether a library with these features can have it as its items."""
    if not isinstance(thing, tuple) or len(thing) > MOST_ITEMS:
        return False
    if not all([is_tuple_of(2, pair) for pair in thing]):
        return False
    if not are_ascending_names(tuple([pair[0] for pair in thing])):
        return False
    return all([are_rows(features, pair[1]) for pair in thing])


def is_library(thing):
    """Return, of anything, whether it is a library."""
    if not is_tuple_of(2, thing) or not is_manifest(thing[0]):
        return False
    return are_items(features_in(thing[0]), thing[1])


def version_by(rows, closed):
    """Return the version that rows give at a closed request, None if no formula holds."""
    for formula, version in rows:
        if holds(formula, closed):
            return version
    return None


def view_at(library, closed):
    """Return the view at a closed request."""
    found = [(item, version_by(rows, closed)) for item, rows in library[1]]
    return tuple([pair for pair in found if pair[1] is not None])


def all_views(library):
    """Return the dict of the views at all closed requests, in their order."""
    return {closed: view_at(library, closed) for closed in closed_requests(library[0])}


def gone_pairs(before, after):
    """Return the list of the pairs of one view, in their order, that another one has not."""
    return [pair for pair in before if pair not in after]


def view(library, request):
    """Return the view at a request."""
    return view_at(library, closure(library[0], request))


def version_at(library, request, item):
    """Return the version of an item at a request; None if it is absent, or, of anything, if it is no item."""
    closed = closure(library[0], request)
    # Only strings are compared with the items: other objects may compare in any way.
    if not isinstance(item, str):
        return None
    for name, rows in library[1]:
        if name == item:
            return version_by(rows, closed)
    return None


def versions(library, item):
    """Return the ascending tuple of all versions of an item that are ever seen; () also, of anything, for no item."""
    found = [version_at(library, closed, item) for closed in closed_requests(library[0])]
    return tuple(sorted({version for version in found if version is not None}))


def lost(library, request, more):
    """Return the pairs of the view at a request that are gone at the closure of both requests together."""
    before = view(library, request)
    if not is_request(library[0], more):
        raise BadRequest(more)
    return tuple(gone_pairs(before, view_at(library, closed_over(library[0], request + more))))
