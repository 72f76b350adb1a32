"""Steps from one closed request to a greater one, and what they break."""

from featureunion.errors import BadRequest
from featureunion.libraries import all_views, gone_pairs
from featureunion.manifests import all_requests, closed_over, features_in, is_request, is_within


def broken_items(manifest, views, request, feature):
    """Return the list of the items, ascending, that a user with this request loses if a feature is added."""
    before = views[closed_over(manifest, request)]
    after = views[closed_over(manifest, request + (feature,))]
    return [item for item, version in gone_pairs(before, after)]


def breaking_steps(library):
    """Return all triples (closed request, feature, item) for which the step breaks the item."""
    manifest = library[0]
    views = all_views(library)
    steps = [(closed, feature) for closed in views for feature in features_in(manifest) if feature not in closed]
    return tuple([(closed, feature, item) for closed, feature in steps
                  for item in broken_items(manifest, views, closed, feature)])


def is_additive(library):
    """Return whether no step breaks anything."""
    return len(breaking_steps(library)) == 0


def is_additive_above(library, request):
    """Return whether no step from a closed request that contains this request breaks anything."""
    if not is_request(library[0], request):
        raise BadRequest(request)
    starts = [step[0] for step in breaking_steps(library)]
    return not any([is_within(request, start) for start in starts])


def breaking_pair(library):
    """Return the least (request, feature, item), with as few features as possible, by which an item is lost."""
    manifest = library[0]
    views = all_views(library)
    # The requests come by their number of features, then ascending: the first triple is the wanted one.
    for request in all_requests(manifest):
        for feature in features_in(manifest):
            broken = broken_items(manifest, views, request, feature)
            if broken:
                return (request, feature, broken[0])
    return None


def safe_features(library):
    """Return the ascending tuple of the features with which no step breaks anything."""
    unsafe = [step[1] for step in breaking_steps(library)]
    return tuple([feature for feature in features_in(library[0]) if feature not in unsafe])
