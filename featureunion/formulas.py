"""Names, and formulas over features."""

LETTERS = "abcdefghijklmnopqrstuvwxyz"
LONGEST_NAME = 8
MOST_FORMULAS = 400
DEEPEST_FORMULA = 10


def is_name(thing):
    """Return, of anything, whether it is a name."""
    if not isinstance(thing, str) or not 1 <= len(thing) <= LONGEST_NAME:
        return False
    return all([letter in LETTERS for letter in thing])


def has_outer_form(thing):
    """Return, of anything, whether it is a formula if its parts are formulas."""
    # The first word is compared only if it is a string: other objects may compare in any way.
    if not isinstance(thing, tuple) or len(thing) == 0 or not isinstance(thing[0], str):
        return False
    word = thing[0]
    if word == "feature":
        return len(thing) == 2 and is_name(thing[1])
    if word == "not":
        return len(thing) == 2
    return word in ("all", "any")


def parts_of(formula):
    """Return the formulas that stand directly in a formula."""
    if formula[0] == "feature":
        return ()
    return formula[1:]


def is_formula(thing):
    """Return, of anything, whether it is a formula."""
    waiting = [(thing, 1)]
    found = 1
    while waiting:
        part, depth = waiting.pop()
        if depth > DEEPEST_FORMULA or not has_outer_form(part):
            return False
        inner = parts_of(part)
        # Counted before they are looked at, so that a thing with very many parts is refused soon.
        found += len(inner)
        if found > MOST_FORMULAS:
            return False
        waiting.extend([(formula, depth + 1) for formula in inner])
    return True


def formulas_in(formula):
    """Return the list of all formulas in a formula, itself included."""
    found = []
    waiting = [formula]
    while waiting:
        part = waiting.pop()
        found.append(part)
        waiting.extend(parts_of(part))
    return found


def features_of(formula):
    """Return the ascending tuple of the features in a formula."""
    return tuple(sorted({part[1] for part in formulas_in(formula) if part[0] == "feature"}))


def holds(formula, features):
    """Return whether a formula holds for a tuple of features."""
    word = formula[0]
    if word == "feature":
        return formula[1] in features
    answers = [holds(part, features) for part in parts_of(formula)]
    if word == "not":
        return not answers[0]
    if word == "all":
        return all(answers)
    return any(answers)


def is_positive(formula):
    """Return whether no "not" is in a formula."""
    return all([part[0] != "not" for part in formulas_in(formula)])
