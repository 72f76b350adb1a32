"""The texts of formulas and libraries, written and read."""

from featureunion.errors import BadText
from featureunion.formulas import is_formula, is_name, parts_of
from featureunion.libraries import is_library

DIGITS = "0123456789"
LONGEST_VERSION = 2


def show_formula(formula):
    """Return the text of a formula."""
    if formula[0] == "feature":
        return formula[1]
    inner = ", ".join([show_formula(part) for part in parts_of(formula)])
    return f"{formula[0]}({inner})"


def show_library(library):
    """Return the text of a library."""
    manifest, items = library
    rows = [" ".join(["feature", feature, *implied]) for feature, implied in manifest]
    for item, guards in items:
        rows.append(f"item {item}")
        rows.extend([f"{version} {show_formula(formula)}" for formula, version in guards])
    return "\n".join(rows)


def things_in(text):
    """Return the list of all that stands in a text side by side, None if its brackets do not fit.

    Commas and blanks are passed over, and no word is looked at: what is no formula, or has another text, is found
    out afterwards.
    """
    levels = [[]]
    word = ""
    for sign in text:
        if sign == "(":
            levels.append([word])
            word = ""
        elif sign in "), ":
            if word != "":
                levels[-1].append(("feature", word))
                word = ""
            if sign == ")":
                done = tuple(levels.pop())
                if len(levels) == 0:
                    return None
                levels[-1].append(done)
        else:
            word += sign
    if word != "":
        levels[-1].append(("feature", word))
    return levels[0] if len(levels) == 1 else None


def formula_in(text):
    """Return the formula with this text, None if there is none."""
    found = things_in(text)
    if found is None or len(found) != 1 or not is_formula(found[0]) or show_formula(found[0]) != text:
        return None
    return found[0]


def read_formula(text):
    """Return, of anything, the formula with this text."""
    formula = formula_in(text) if isinstance(text, str) else None
    if formula is None:
        raise BadText(text)
    return formula


def is_number(word, longest):
    """Return whether a word is a number of at most so many digits, without leading zeros except for 0."""
    if not 1 <= len(word) <= longest or not all([sign in DIGITS for sign in word]):
        return False
    return word == "0" or word[0] != "0"


def row_in(text):
    """Return what a row of a library says as (kind, thing, thing), None if it does not have the form of a row."""
    word, blank, rest = text.partition(" ")
    if word == "feature":
        names = rest.split(" ")
        return ("feature", names[0], tuple(names[1:])) if all([is_name(name) for name in names]) else None
    if word == "item":
        return ("item", rest, ()) if is_name(rest) else None
    formula = formula_in(rest)
    if formula is None or not is_number(word, LONGEST_VERSION):
        return None
    return ("guard", formula, int(word))


def library_of(rows):
    """Return what rows say together, a library or not."""
    manifest = [(feature, implied) for kind, feature, implied in rows if kind == "feature"]
    items = []
    for kind, thing, version in rows:
        if kind == "item":
            items.append((thing, []))
        # What stands before all items is left out, so that the text of the library is another one.
        if kind == "guard" and len(items) > 0:
            items[-1][1].append((thing, version))
    return (tuple(manifest), tuple([(item, tuple(guards)) for item, guards in items]))


def read_library(text):
    """Return, of anything, the library with this text."""
    if not isinstance(text, str):
        raise BadText(0)
    lines = text.split("\n") if text != "" else []
    rows = []
    for number, line in enumerate(lines):
        row = row_in(line)
        if row is None:
            raise BadText(number)
        rows.append(row)
    library = library_of(rows)
    if not is_library(library) or show_library(library) != text:
        raise BadText(len(rows))
    return library
