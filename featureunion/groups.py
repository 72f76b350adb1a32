"""Users of a library, and what they lose if they are built together."""

from featureunion.errors import BadUsers, UnknownUser
from featureunion.formulas import is_name
from featureunion.libraries import all_views, view, view_at
from featureunion.manifests import (
    all_requests, are_ascending_names, closed_over, is_request, is_tuple_of, subsets_of,
)

MOST_USERS = 8


def names_of(users):
    """Return the tuple of the names of users."""
    return tuple([user[0] for user in users])


def is_user(library, thing):
    """Return, of anything as thing, whether it is a triple (user, request, items) of a library."""
    if not is_tuple_of(3, thing):
        return False
    name, request, items = thing
    if not is_name(name) or not is_request(library[0], request) or not are_ascending_names(items):
        return False
    seen = [item for item, version in view(library, request)]
    return all([item in seen for item in items])


def is_users(library, thing):
    """Return, of anything as thing, whether it is users of a library."""
    if not isinstance(thing, tuple) or len(thing) > MOST_USERS:
        return False
    if not all([is_user(library, user) for user in thing]):
        return False
    return are_ascending_names(names_of(thing))


def check_users(library, users):
    """Raise BadUsers, of anything, if it is no users of a library."""
    if not is_users(library, users):
        raise BadUsers(users)


def check_name(users, name):
    """Raise UnknownUser, of anything as name, if none of these users has it."""
    # Only strings are compared with the names: other objects may compare in any way.
    if not isinstance(name, str) or name not in names_of(users):
        raise UnknownUser(name)


def built_at(library, group):
    """Return the closed request at which a group is built."""
    return closed_over(library[0], [feature for user in group for feature in user[1]])


def claims_of(library, users):
    """Return the list of all (user, item, version) that users rely on, with the versions of their own views."""
    return [(name, item, version) for name, request, items in users
            for item, version in view(library, request) if item in items]


def lost_claims(claims, there):
    """Return the list of all pairs (user, item) of claims that a view does not meet."""
    return [(name, item) for name, item, version in claims if (item, version) not in there]


def group_losses(library, group):
    """Return the ascending tuple of all pairs (user, item) that are lost in a group of users."""
    return tuple(lost_claims(claims_of(library, group), view_at(library, built_at(library, group))))


def united(library, users):
    """Return the closed request at which users are built together."""
    check_users(library, users)
    return built_at(library, users)


def losses(library, users):
    """Return the ascending tuple of all pairs (user, item) that are lost in the group of all users."""
    check_users(library, users)
    return group_losses(library, users)


def smallest_harmful(library, users):
    """Return the names of the least group, with as few users as possible, that is not harmless, or None."""
    check_users(library, users)
    views = all_views(library)
    claims = claims_of(library, users)
    for names in subsets_of(names_of(users)):
        there = views[built_at(library, [user for user in users if user[0] in names])]
        if lost_claims([claim for claim in claims if claim[0] in names], there):
            return names
    return None


def is_clashing(library, users, one, other):
    """Return whether the group of two named users is not harmless."""
    check_users(library, users)
    check_name(users, one)
    check_name(users, other)
    return len(group_losses(library, [user for user in users if user[0] in (one, other)])) > 0


def stranger(library, users):
    """Return the least request with which one more user makes somebody lose something, or None."""
    check_users(library, users)
    views = all_views(library)
    claims = claims_of(library, users)
    together = built_at(library, users)
    for request in all_requests(library[0]):
        if lost_claims(claims, views[closed_over(library[0], together + request)]):
            return request
    return None
