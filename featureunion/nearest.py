"""The nearest libraries in which nothing is ever lost."""

from featureunion.errors import NoHull
from featureunion.libraries import all_views
from featureunion.manifests import features_in, is_within
from featureunion.tables import grounds_of, sightings


def formula_of(requests):
    """Return the formula that holds where one of these requests is contained."""
    parts = [("all",) + tuple([("feature", feature) for feature in request]) for request in requests]
    return ("any",) + tuple(parts)


def plain(manifest, grounds):
    """Return the library of a manifest in which each item is seen where one of its requests is contained."""
    return (manifest, tuple([(item, ((formula_of(requests), version),)) for item, version, requests in grounds]))


def hull(library):
    """Return the least additive library that has at each request all that a library has there."""
    seen = sightings(library)
    items = [item for item, version in sorted(seen)]
    for at in range(1, len(items)):
        if items[at] == items[at - 1]:
            raise NoHull(items[at])
    return plain(library[0], grounds_of(seen))


def kept_at(views, pair):
    """Return the list of the closed requests at which, and above which, a pair is in all views."""
    lacking = [closed for closed in views if pair not in views[closed]]
    return [closed for closed in views if not any([is_within(closed, greater) for greater in lacking])]


def kernel(library):
    """Return the greatest additive library that has at each request nothing but what a library has there."""
    manifest = library[0]
    views = all_views(library)
    # Whatever is never lost is also there with all features.
    return plain(manifest, grounds_of({pair: kept_at(views, pair) for pair in views[features_in(manifest)]}))
