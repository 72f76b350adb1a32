"""Copies of a library: groups of users that can share one, and requests that serve them all."""

from featureunion.groups import built_at, check_name, check_users, claims_of, lost_claims, names_of
from featureunion.libraries import all_views
from featureunion.manifests import are_ascending_names, closed_over, is_request, is_within, place_of, subsets_of


def served_names(library, users):
    """Return the dict of all closed requests, in their order, with the names of the users that each one serves."""
    claims = claims_of(library, users)
    found = {}
    for closed, there in all_views(library).items():
        losing = [name for name, item in lost_claims(claims, there)]
        found[closed] = tuple([name for name, request, items in users
                               if name not in losing and is_within(request, closed)])
    return found


def are_harmless(library, users, served, names):
    """Return whether the group of the users with these names is harmless, by what the closed requests serve."""
    together = built_at(library, [user for user in users if user[0] in names])
    return is_within(names, served[together])


def best_split(harmless, best, names):
    """Return the best split of these users, by the harmless groups and the best splits of fewer users."""
    found = []
    for group in subsets_of(names):
        # The groups ascend: the first one is that of the first name.
        if group in harmless and group[0] == names[0]:
            found.append((group,) + best[tuple([name for name in names if name not in group])])
    return min(found, key=lambda groups: (len(groups), groups))


def split(library, users):
    """Return a split of users with as few groups as possible; of several the least one."""
    check_users(library, users)
    served = served_names(library, users)
    groups = subsets_of(names_of(users))[1:]
    harmless = {names: True for names in groups if are_harmless(library, users, served, names)}
    best = {(): ()}
    # A group stands behind all smaller ones, so that the rest of it is always there.
    for names in groups:
        best[names] = best_split(harmless, best, names)
    return best[names_of(users)]


def are_groups(users, thing):
    """Return, of anything as thing, whether it is ascending groups in which each user is exactly once."""
    if not isinstance(thing, tuple):
        return False
    if not all([are_ascending_names(group) and len(group) > 0 for group in thing]):
        return False
    if sorted([name for group in thing for name in group]) != list(names_of(users)):
        return False
    return list(thing) == sorted(thing)


def is_split(library, users, thing):
    """Return, of anything as thing, whether it is a split of users."""
    check_users(library, users)
    if not are_groups(users, thing):
        return False
    served = served_names(library, users)
    return all([are_harmless(library, users, served, names) for names in thing])


def cover(library, users):
    """Return a cover of users with as few requests as possible; of several the first one."""
    check_users(library, users)
    firsts = {}
    for closed, names in served_names(library, users).items():
        # Of the requests that serve the same users only the first one can stand in the first cover.
        firsts.setdefault(names, closed)
    best = {(): ()}
    # From the last request to the first: best has the best covers with the requests behind this one.
    for served, closed in reversed(list(firsts.items())):
        for names in subsets_of(names_of(users)):
            rest = tuple([name for name in names if name not in served])
            if rest in best and (names not in best or len(best[rest]) < len(best[names])):
                best[names] = (closed,) + best[rest]
    return best[names_of(users)]


def is_closed_request(manifest, thing):
    """Return, of anything as thing, whether it is a closed request."""
    return is_request(manifest, thing) and closed_over(manifest, thing) == thing


def are_in_order(requests):
    """Return whether requests are different and in their order."""
    places = [place_of(request) for request in requests]
    return all([places[at] < places[at + 1] for at in range(len(places) - 1)])


def is_cover(library, users, thing):
    """Return, of anything as thing, whether it is a cover of users."""
    check_users(library, users)
    if not isinstance(thing, tuple) or not all([is_closed_request(library[0], request) for request in thing]):
        return False
    if not are_in_order(thing):
        return False
    served = served_names(library, users)
    return all([any([name in served[request] for request in thing]) for name in names_of(users)])


def serves(library, users, name):
    """Return all closed requests that serve the named user, in their order."""
    check_users(library, users)
    check_name(users, name)
    return tuple([closed for closed, names in served_names(library, users).items() if name in names])
