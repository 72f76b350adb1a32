"""Manifests of features, and requests for them."""

from featureunion.errors import BadRequest
from featureunion.formulas import is_name

MOST_FEATURES = 8


def are_ascending_names(thing):
    """Return, of anything, whether it is an ascending tuple of names."""
    # All are names before two are compared: other objects may have no order.
    if not isinstance(thing, tuple) or not all([is_name(name) for name in thing]):
        return False
    return all([thing[at] < thing[at + 1] for at in range(len(thing) - 1)])


def is_tuple_of(size, thing):
    """Return, of anything as thing, whether it is a tuple with so many members."""
    return isinstance(thing, tuple) and len(thing) == size


def features_in(manifest):
    """Return the ascending tuple of the features of a manifest."""
    return tuple([pair[0] for pair in manifest])


def is_within(request, other):
    """Return whether another request contains this one."""
    return all([feature in other for feature in request])


def can_imply(features, feature, implied):
    """Return, of anything as implied, whether a feature among these features can imply it."""
    if not are_ascending_names(implied):
        return False
    return all([name in features and name != feature for name in implied])


def is_manifest(thing):
    """Return, of anything, whether it is a manifest."""
    if not isinstance(thing, tuple) or len(thing) > MOST_FEATURES:
        return False
    if not all([is_tuple_of(2, pair) for pair in thing]):
        return False
    features = features_in(thing)
    if not are_ascending_names(features):
        return False
    return all([can_imply(features, feature, implied) for feature, implied in thing])


def is_request(manifest, thing):
    """Return, of anything as thing, whether it is a request."""
    if not are_ascending_names(thing):
        return False
    features = features_in(manifest)
    return all([name in features for name in thing])


def closed_over(manifest, features):
    """Return the closure of any features of a manifest, in any order."""
    implied = dict(manifest)
    found = set()
    waiting = list(features)
    while waiting:
        feature = waiting.pop()
        if feature not in found:
            found.add(feature)
            waiting.extend(implied[feature])
    return tuple(sorted(found))


def closure(manifest, request):
    """Return the closure of a request."""
    if not is_request(manifest, request):
        raise BadRequest(request)
    return closed_over(manifest, request)


def place_of(request):
    """Return what decides where a request stands in the order: its number of features, then itself."""
    return (len(request), request)


def subsets_of(names):
    """Return the list of all ascending tuples of names among ascending ones, by their length, then ascending."""
    found = [()]
    for name in names:
        found = found + [subset + (name,) for subset in found]
    return sorted(found, key=place_of)


def all_requests(manifest):
    """Return the list of all requests, by their number of features, then ascending."""
    return subsets_of(features_in(manifest))


def closed_requests(manifest):
    """Return all closed requests, in their order."""
    return tuple([request for request in all_requests(manifest) if closed_over(manifest, request) == request])


def least_among(requests):
    """Return the list of those among different requests, in their order, that contain no other one of them."""
    least = []
    # A request stands behind all that it can contain, so that only those found before it matter.
    for request in sorted(requests, key=place_of):
        if not any([is_within(other, request) for other in least]):
            least.append(request)
    return least


def least_requests(manifest, request):
    """Return all requests with the closure of this one and as few features as possible, ascending."""
    goal = closure(manifest, request)
    same = [other for other in all_requests(manifest) if closed_over(manifest, other) == goal]
    # The requests come by their number of features: the first one has as few as possible.
    return tuple([other for other in same if len(other) == len(same[0])])
