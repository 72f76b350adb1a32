"""Tables of all views of a library, and comparisons of two libraries by them."""

from featureunion.errors import NotAdditive, OtherManifest
from featureunion.libraries import all_views, gone_pairs
from featureunion.manifests import least_among
from featureunion.steps import breaking_steps


def table(library):
    """Return the tuple of all pairs (closed request, view), in the order of the closed requests."""
    return tuple(all_views(library).items())


def same_views(one, other):
    """Return whether two libraries have the same manifest and the same table."""
    return one[0] == other[0] and table(one) == table(other)


def sightings(library):
    """Return the dict of all pairs (item, version) that are ever seen, with the list of the closed requests."""
    found = {}
    for closed, there in table(library):
        for pair in there:
            found.setdefault(pair, []).append(closed)
    return found


def grounds_of(seen):
    """Return the triples (item, version, requests), ascending, of a dict of pairs with all their closed requests."""
    return tuple([(item, version, tuple(least_among(requests)))
                  for (item, version), requests in sorted(seen.items())])


def grounds(library):
    """Return, of an additive library, the triples (item, version, requests) of which plain makes its views."""
    steps = breaking_steps(library)
    if len(steps) > 0:
        raise NotAdditive(steps[0])
    return grounds_of(sightings(library))


def taken(one, other):
    """Return the first (closed request, item) that a later edition of a library takes away, or None."""
    if one[0] != other[0]:
        raise OtherManifest()
    later = all_views(other)
    for closed, there in table(one):
        gone = gone_pairs(there, later[closed])
        if gone:
            return (closed, gone[0][0])
    return None
