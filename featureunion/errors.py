"""The errors that the package raises."""


class FeatureError(ValueError):
    """The base of all errors of the package."""


class BadRequest(FeatureError):
    """The value is a thing that is no request of the manifest."""

    def __init__(self, value):
        self.value = value


class BadUsers(FeatureError):
    """The value is a thing that is no users of the library."""

    def __init__(self, value):
        self.value = value


class UnknownUser(FeatureError):
    """The value is a thing that is the name of no user."""

    def __init__(self, value):
        self.value = value


class NoHull(FeatureError):
    """The value is the first item that is seen with two versions."""

    def __init__(self, value):
        self.value = value


class NotAdditive(FeatureError):
    """The value is the first breaking step of a library."""

    def __init__(self, value):
        self.value = value


class BadLibrary(FeatureError):
    """The value is a thing that is no library."""

    def __init__(self, value):
        self.value = value


class BadName(FeatureError):
    """The value is a thing that is no name."""

    def __init__(self, value):
        self.value = value


class TakenName(FeatureError):
    """The value is a name that another user already has."""

    def __init__(self, value):
        self.value = value


class BadItems(FeatureError):
    """The value is a thing that is no tuple of items that a user can rely on."""

    def __init__(self, value):
        self.value = value


class BadNumber(FeatureError):
    """The value is a thing that is the number of no copy."""

    def __init__(self, value):
        self.value = value


class BadText(FeatureError):
    """The value is a text that cannot be read, or the number of its first wrong row."""

    def __init__(self, value):
        self.value = value


class BadLine(FeatureError):
    """The value is a thing that is no command of a desk."""

    def __init__(self, value):
        self.value = value


class OtherManifest(FeatureError):
    """Two libraries do not have the same manifest."""


class FullBuild(FeatureError):
    """A build has as many users as it can have."""


class NothingToUndo(FeatureError):
    """A build has no change that can be taken back."""
