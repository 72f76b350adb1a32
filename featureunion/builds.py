"""Builds: copies of a library for users who come and go."""

from featureunion.copies import split
from featureunion.errors import (
    BadItems, BadLibrary, BadName, BadNumber, BadRequest, FullBuild, NothingToUndo, TakenName,
)
from featureunion.formulas import is_name
from featureunion.groups import MOST_USERS, built_at, check_name, group_losses, is_user, names_of
from featureunion.libraries import is_library
from featureunion.manifests import is_request


class Build:
    """Copies of a library, each with a harmless group of users."""

    def __init__(self, library):
        if not is_library(library):
            raise BadLibrary(library)
        self.library = library
        self.people = ()
        self.groups = ()
        self.past = []

    def __len__(self):
        return len(self.people)

    def __eq__(self, other):
        return (isinstance(other, Build) and self.library == other.library and self.people == other.people
                and self.groups == other.groups)

    def enter(self, name, request, items):
        """Add a user to the first copy that stays harmless, else to a new one, and return the number of the copy."""
        self.check_entry(name, request, items)
        self.remember()
        self.people = tuple(sorted(self.people + ((name, request, items),)))
        return self.place(name)

    def leave(self, name):
        """Remove a user; if the others of its copy lose something then, they are added again."""
        number = self.copy_of(name)
        others = tuple([other for other in self.groups[number] if other != name])
        self.remember()
        self.people = tuple([user for user in self.people if user[0] != name])
        if len(others) > 0 and self.is_harmless(others):
            self.replace_copy(number, (others,))
            return
        self.replace_copy(number, ())
        for other in others:
            self.place(other)

    def copies(self):
        """Return the tuple of the copies, in their order, each the ascending tuple of the names of its users."""
        return self.groups

    def features_at(self, number):
        """Return the closed request at which a copy is built."""
        # True and False are no numbers, although they are integers for Python.
        if not isinstance(number, int) or isinstance(number, bool) or not 0 <= number < len(self.groups):
            raise BadNumber(number)
        return built_at(self.library, self.users_named(self.groups[number]))

    def users(self):
        """Return the users, ascending."""
        return self.people

    def copy_of(self, name):
        """Return the number of the copy of a user."""
        check_name(self.people, name)
        return [number for number, names in enumerate(self.groups) if name in names][0]

    def repack(self):
        """Form the copies anew, as few as possible, and return how many there are."""
        self.remember()
        self.groups = split(self.library, self.people)
        return len(self.groups)

    def undo(self):
        """Take back the last change."""
        if len(self.past) == 0:
            raise NothingToUndo()
        self.people, self.groups = self.past.pop()

    def changes(self):
        """Return how many changes can be taken back."""
        return len(self.past)

    def check_entry(self, name, request, items):
        """Raise what enter raises, of anything, if there can be no such user more."""
        if not is_name(name):
            raise BadName(name)
        if name in names_of(self.people):
            raise TakenName(name)
        if not is_request(self.library[0], request):
            raise BadRequest(request)
        if not is_user(self.library, (name, request, items)):
            raise BadItems(items)
        if len(self.people) >= MOST_USERS:
            raise FullBuild()

    def remember(self):
        """Keep what there is, so that the next change can be taken back."""
        self.past.append((self.people, self.groups))

    def users_named(self, names):
        """Return the list of the users with these names."""
        return [user for user in self.people if user[0] in names]

    def is_harmless(self, names):
        """Return whether the group of the users with these names is harmless."""
        return len(group_losses(self.library, self.users_named(names))) == 0

    def replace_copy(self, number, groups):
        """Put other copies in the place of a copy."""
        self.groups = self.groups[:number] + groups + self.groups[number + 1:]

    def first_copy_for(self, name):
        """Return the number of the first copy that stays harmless with a user, that of a new one if there is none."""
        for number, names in enumerate(self.groups):
            if self.is_harmless(names + (name,)):
                return number
        return len(self.groups)

    def place(self, name):
        """Put a user who is in no copy into one, and return its number."""
        number = self.first_copy_for(name)
        names = self.groups[number] if number < len(self.groups) else ()
        self.replace_copy(number, (tuple(sorted(names + (name,))),))
        return number
