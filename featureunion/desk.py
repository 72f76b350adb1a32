"""A desk: a build that is told by lines of text what to do, and answers by text."""

from featureunion.always import always
from featureunion.builds import Build
from featureunion.errors import BadLine
from featureunion.formulas import is_name
from featureunion.groups import losses
from featureunion.libraries import view
from featureunion.steps import breaking_pair, breaking_steps, safe_features
from featureunion.texts import is_number, read_library

NOTHING = "-"
DONE = "done"
LONGEST_NUMBER = 3


def name_in(word):
    """Return the name that a word is, None if it is none."""
    return word if is_name(word) else None


def names_in(word):
    """Return the tuple of the names with commas between, None if a word is not so."""
    if word == NOTHING:
        return ()
    names = tuple(word.split(","))
    return names if all([is_name(name) for name in names]) else None


def number_in(word):
    """Return the number that a word is, None if it is none."""
    return int(word) if is_number(word, LONGEST_NUMBER) else None


def show_names(names):
    """Return names with commas between."""
    return ",".join(names) if len(names) > 0 else NOTHING


def show_pairs(pairs):
    """Return pairs, each with a blank between, with a comma and a blank between them."""
    return ", ".join([f"{first} {second}" for first, second in pairs])


def say_view(build, values):
    return show_pairs(view(build.library, values[0]))


def say_steps(build, values):
    return str(len(breaking_steps(build.library)))


def say_pair(build, values):
    pair = breaking_pair(build.library)
    return NOTHING if pair is None else f"{show_names(pair[0])} {pair[1]} {pair[2]}"


def say_safe(build, values):
    return show_names(safe_features(build.library))


def say_always(build, values):
    return " ".join([show_names(request) for request in always(build.library)])


def say_enter(build, values):
    return str(build.enter(values[0], values[1], values[2]))


def say_repack(build, values):
    return str(build.repack())


def say_leave(build, values):
    build.leave(values[0])
    return DONE


def say_undo(build, values):
    build.undo()
    return DONE


def say_copies(build, values):
    return " ".join([show_names(names) for names in build.copies()])


def say_built(build, values):
    return show_names(build.features_at(values[0]))


def say_losses(build, values):
    return show_pairs(losses(build.library, build.users()))


# The first word of each command, what answers it, and what reads its other words.
COMMANDS = {
    "view": (say_view, (names_in,)),
    "steps": (say_steps, ()),
    "pair": (say_pair, ()),
    "safe": (say_safe, ()),
    "always": (say_always, ()),
    "enter": (say_enter, (name_in, names_in, names_in)),
    "repack": (say_repack, ()),
    "leave": (say_leave, (name_in,)),
    "undo": (say_undo, ()),
    "copies": (say_copies, ()),
    "built": (say_built, (number_in,)),
    "losses": (say_losses, ()),
}


def values_in(words, readers):
    """Return the list of what these words say, None for each that its reader cannot read."""
    found = []
    for word, read in zip(words, readers):
        found.append(read(word))
    return found


class Desk:
    """A desk with a build of the library that is read from a text."""

    def __init__(self, text):
        self.build = Build(read_library(text))

    def say(self, line):
        """Do, of anything, one command and return its answer."""
        words = line.split(" ") if isinstance(line, str) else []
        if len(words) == 0 or words[0] not in COMMANDS:
            raise BadLine(line)
        answer, readers = COMMANDS[words[0]]
        values = values_in(words[1:], readers)
        if len(words) - 1 != len(readers) or None in values:
            raise BadLine(line)
        told = answer(self.build, values)
        return told if told != "" else NOTHING
