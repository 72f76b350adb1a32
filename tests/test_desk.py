import random
import re
import unittest

from featureunion.always import always
from featureunion.builds import Build
from featureunion.desk import Desk
from featureunion.errors import (
    BadItems, BadLine, BadNumber, BadRequest, BadText, FeatureError, FullBuild, NothingToUndo, TakenName, UnknownUser,
)
from featureunion.groups import losses
from featureunion.libraries import view
from featureunion.steps import breaking_pair, breaking_steps, safe_features
from featureunion.texts import read_library, show_library
from support import (
    Answers, EIGHT, EIGHT_USERS, STD, TWELVE_ITEMS, additive_libraries, all_subsets, builtin_things, deep_things,
    features_in, libraries_of_all_sizes, library_by_rules, other_things, random_library, random_manifest,
    random_table_library, small_libraries,
)

AB_TEXT = "feature a\nfeature b a\nitem x\n1 not(b)\n2 all()"
NAME, NAMES, NUMBER = "[a-z]{1,8}", "(-|[a-z]{1,8}(,[a-z]{1,8})*)", "(0|[1-9][0-9]{0,2})"
COMMANDS = re.compile("|".join((
    f"view {NAMES}", "steps", "pair", "safe", "always", f"enter {NAME} {NAMES} {NAMES}", "repack", f"leave {NAME}",
    "undo", "copies", f"built {NUMBER}", "losses")), re.ASCII)
LINES = ("view -", "view a", "view a,b", "steps", "pair", "safe", "always", "enter u a x", "enter v - -",
         "enter u a,b x,y", "repack", "leave u", "undo", "copies", "built 0", "built 12", "built 345", "losses")


def names_text(names):
    return ",".join(names) or "-"


def pairs_text(pairs):
    return ", ".join(f"{first} {second}" for first, second in pairs) or "-"


def names_of_text(word):
    return () if word == "-" else tuple(word.split(","))


def answer_of(build, line):
    """What the functions and methods return for a command, as text."""
    command, *words = line.split(" ")
    library = build.library
    if command == "view":
        return pairs_text(view(library, names_of_text(words[0])))
    if command == "steps":
        return str(len(breaking_steps(library)))
    if command == "pair":
        pair = breaking_pair(library)
        return "-" if pair is None else f"{names_text(pair[0])} {pair[1]} {pair[2]}"
    if command == "safe":
        return names_text(safe_features(library))
    if command == "always":
        return " ".join(names_text(request) for request in always(library))
    if command == "enter":
        return str(build.enter(words[0], names_of_text(words[1]), names_of_text(words[2])))
    if command == "repack":
        return str(build.repack())
    if command == "leave":
        return "done" if build.leave(words[0]) is None else ""
    if command == "undo":
        return "done" if build.undo() is None else ""
    if command == "copies":
        return " ".join(",".join(names) for names in build.copies()) or "-"
    if command == "built":
        return names_text(build.features_at(int(words[0])))
    return pairs_text(losses(library, build.users()))


def result_of(call):
    """What a call returns, or the class and the value of what it raises."""
    try:
        return call()
    except FeatureError as error:
        return (type(error), getattr(error, "value", None))


def state_of(desk):
    """What a desk tells of its build, and how many commands it can take back."""
    told = [desk.say("copies"), desk.say("losses")]
    copies = [] if told[0] == "-" else told[0].split(" ")
    return told + [desk.say(f"built {number}") for number in range(len(copies))] + [desk.build.changes()]


def changed_lines(source, line):
    """Lines that differ from this one by a word left out, twice or put in, or by a sign."""
    words = line.split(" ")
    at = source.randrange(len(words))
    more = source.choice((
        "", "a", "-", "0", "view", "x", "a,b", "abcdefghi", "A", "007", "1000", ",", "a,", ",a", "done"))
    sign = source.choice(" ,-\n\ta0A")
    place = source.randrange(len(line) + 1)
    return [
        " ".join(words[:at] + words[at + 1:]), " ".join(words[:at] + words[at:at + 1] + words[at:]),
        " ".join(words[:at] + [more] + words[at:]), " ".join(words[:at] + [more] + words[at + 1:]),
        line[:place] + sign + line[place:], line[:place] + line[place + 1:], line[:place] + sign + line[place + 1:],
        " " + line, line + " ", line + "\n", "\n" + line, line.upper(), line.replace(" ", "  "),
        line.replace(" ", "\t")]


class Example(unittest.TestCase):
    def test_point_25(self):
        desk = Desk('feature a\nfeature b a\nitem x\n1 not(b)\n2 all()')
        self.assertEqual(
            (desk.say('view -'), desk.say('pair'), desk.say('enter u a x'), desk.say('enter v b -'), desk.say('copies'),
             desk.say('losses')),
            ('x 1', '- b x', '0', '1', 'u v', 'u x'))


class New(unittest.TestCase):
    def test_bad_text(self):
        for text in ("x", "\n", "feature a b", "feature a\nfeature A", "item x", "item x\n1 a",
                     "feature a\nitem x\n100 a", AB_TEXT + "\n", AB_TEXT + "\n3 c", "feature a\n\nfeature b", " "):
            with self.subTest(text=text):
                with self.assertRaises(BadText) as context:
                    Desk(text)
                self.assertEqual(context.exception.value, library_by_rules(text))
                self.assertIs(type(context.exception.value), int)

    def test_of_anything(self):
        for thing in other_things() + deep_things(30) + [STD, ((), ()), [""], b"", None, 0]:
            with self.subTest(thing=thing):
                if isinstance(thing, str) and not isinstance(library_by_rules(thing), int):
                    Desk(thing)
                    continue
                with self.assertRaises(BadText) as context:
                    Desk(thing)
                self.assertEqual(context.exception.value, library_by_rules(thing) if isinstance(thing, str) else 0)

    def test_text_of_nothing(self):
        desk = Desk("")
        self.assertEqual([desk.say(line) for line in (
            "view -", "steps", "pair", "safe", "always", "copies", "losses", "repack", "undo")],
            ["-", "0", "-", "-", "-", "-", "-", "0", "done"])


class Say(unittest.TestCase):
    def check(self, desk, **answers):
        for line, answer in answers.items():
            with self.subTest(line=line):
                self.assertEqual(desk.say(line.replace("_", " ")), answer)

    def test_view(self):
        desk = Desk(show_library(STD))
        for line, answer in (("view -", "panic 1"), ("view alloc", "lock 1, panic 1, vec 1"), ("view nostd", "panic 1"),
                             ("view std", "lock 2, vec 1"), ("view alloc,std", "lock 2, vec 1"),
                             ("view alloc,nostd,std", "lock 2, vec 1")):
            self.assertEqual(desk.say(line), answer)
        self.assertEqual(Desk("feature a\nitem x\n0 a").say("view -"), "-")
        self.assertEqual(Desk("feature a\nitem x\n0 a").say("view a"), "x 0")

    def test_about_the_library(self):
        desk = Desk(show_library(STD))
        self.check(desk, steps="6", pair="- std panic", safe="alloc,nostd", always="std")
        self.check(Desk("feature a\nfeature b\nfeature c\nitem x\n1 not(all(a, b))\n2 c"),
                   steps="4", pair="a b x", safe="c", always="a,b")
        self.check(Desk("feature a b\nfeature b a\nitem x\n1 not(a)"), steps="2", pair="- a x", safe="-", always="a b")
        self.check(Desk("feature a\nitem x\n1 a"), steps="0", pair="-", safe="a", always="-")
        self.check(Desk("feature a\nfeature b\nfeature c\nfeature d\nitem x\n1 not(all(a, b, c))"), pair="a,b c x")

    def test_about_the_build(self):
        desk = Desk(show_library(STD))
        for line, answer in (
                ("copies", "-"), ("losses", "-"), ("enter q std vec", "0"), ("enter r - panic", "1"),
                ("enter p alloc lock", "1"), ("copies", "q p,r"), ("built 0", "alloc,std"), ("built 1", "alloc"),
                ("losses", "p lock, r panic"), ("repack", "2"), ("copies", "p,r q"), ("leave q", "done"),
                ("copies", "p,r"), ("losses", "-"), ("built 0", "alloc"), ("leave p", "done"), ("built 0",
                "-"), ("undo", "done"),
                ("copies", "p,r"), ("undo", "done"), ("copies", "p,r q"), ("undo", "done"), ("copies", "q p,r")):
            with self.subTest(line=line):
                found = desk.say(line)
                self.assertEqual(found, answer)
                self.assertIs(type(found), str)

    def test_ten_copies_and_more_cannot_be(self):
        # The greatest number of a copy is 7: all others are refused as numbers, not as lines.
        desk = Desk("")
        for number in (0, 1, 7, 8, 10, 99, 100, 999):
            with self.assertRaises(BadNumber) as context:
                desk.say(f"built {number}")
            self.assertEqual(context.exception.value, number)
            self.assertIs(type(context.exception.value), int)

    def test_what_the_methods_raise(self):
        desk = Desk(AB_TEXT)
        desk.say("enter u a x")
        before = state_of(desk)
        for line, error, value in (
                ("view b,a", BadRequest, ("b", "a")), ("view a,a", BadRequest, ("a", "a")),
                ("view c", BadRequest, ("c",)),
                ("view a,b,c,d,e,f,g,h,i,j", BadRequest, tuple("abcdefghij")), ("enter u a x", TakenName, "u"),
                ("enter u c,a q", TakenName, "u"), ("enter v b,a -", BadRequest, ("b", "a")),
                ("enter v - y", BadItems, ("y",)), ("enter v a x,x", BadItems, ("x", "x")),
                ("leave v", UnknownUser, "v"), ("leave a", UnknownUser, "a"), ("built 1", BadNumber, 1),
                ("built 999", BadNumber, 999)):
            with self.subTest(line=line):
                with self.assertRaises(error) as context:
                    desk.say(line)
                self.assertEqual(context.exception.value, value)
                self.assertIs(type(context.exception.value), type(value))
                self.assertEqual(state_of(desk), before)
        desk.say("undo")
        self.assertRaises(NothingToUndo, desk.say, "undo")

    def test_full_build(self):
        desk = Desk(AB_TEXT)
        for name in EIGHT_USERS:
            desk.say(f"enter {name} - -")
        self.assertRaises(FullBuild, desk.say, "enter q a x")
        self.assertRaises(BadItems, desk.say, "enter q a y")
        self.assertEqual(desk.say("copies"), ",".join(EIGHT_USERS))

    def test_every_request_of_many_libraries(self):
        for library in small_libraries()[::11] + libraries_of_all_sizes(1)[::2] + additive_libraries(2)[:36:3]:
            desk, build = Desk(show_library(library)), Build(library)
            lines = ["steps", "pair", "safe", "always"]
            lines += ["view " + names_text(request) for request in all_subsets(features_in(library[0]))[:40]]
            for line in lines:
                with self.subTest(library=library, line=line):
                    self.assertEqual(desk.say(line), answer_of(build, line))

    def test_many_commands_against_the_methods(self):
        source = random.Random(3)
        raised = set()
        for size in (0, 1, 2, 2, 3, 3, 4, 5):
            for make in (random_table_library, random_library):
                library = make(source, random_manifest(source, size), TWELVE_ITEMS[:3])
                desk, build, answers = Desk(show_library(library)), Build(library), Answers(library)
                for _ in range(80):
                    line = self.random_line(source, answers)
                    found, answer = result_of(lambda: desk.say(line)), result_of(lambda: answer_of(build, line))
                    self.assertEqual(found, answer, (library, line))
                    self.assertTrue(desk.build == build)
                    raised |= {answer[0]} if isinstance(answer, tuple) else {line.split(" ")[0]}
        self.assertTrue({BadRequest, TakenName, BadItems, UnknownUser, BadNumber, NothingToUndo} <= raised, raised)
        self.assertEqual(len({word for word in raised if isinstance(word, str)}), 12)

    def random_line(self, source, answers):
        name = source.choice("pqrstuv")
        (_, request, items), = answers.random_users(source, (name,))
        if not source.randrange(6):
            request = tuple(source.choice(EIGHT[:5]) for _ in range(source.randrange(4)))
        return source.choice((
            f"enter {name} {names_text(request)} {names_text(items)}", f"enter {name} {names_text(request)} -",
            f"enter {name} {names_text(request)} {names_text(items)}", f"enter {name} - {source.choice(TWELVE_ITEMS)}",
            f"leave {name}", "repack", "undo", "copies",
            f"built {source.randrange(4)}", "losses", f"view {names_text(request)}", "steps", "pair", "safe", "always"))


class BadLines(unittest.TestCase):
    def setUp(self):
        self.desk = Desk(AB_TEXT)
        self.desk.say("enter u a x")
        self.desk.say("enter v b -")
        self.before = state_of(self.desk)

    def refused(self, line):
        with self.subTest(line=line):
            with self.assertRaises(BadLine) as context:
                self.desk.say(line)
            self.assertIs(context.exception.value, line)
            self.assertEqual(state_of(self.desk), self.before)

    def test_words(self):
        for line in (
                "", " ", "-", "view", "view ", " view -", "view -  ", "view  -", "view - -", "view a b", "view a, b",
                "view a,", "view ,a", "view ,", "view a,,b", "view abcdefghi", "view a,abcdefghi", "view A", "view a1",
                "view --", "view -,a", "view a,-", "View a", "views a", "steps ", "steps -", "steps 0", "step",
                "pair a", "pairs", "safe -", "always a", "enter", "enter w", "enter w a", "enter w a x y",
                "enter w  a x",
                "enter w a ", "enter w a x ", " enter w a x", "enter W a x", "enter abcdefghi a x",
                "enter - a x", "enter w,z a x",
                "enter w a, x", "enter w a x,", "enter w ,a x", "enter w a X", "enter w A x", "enter w  x", "repack 1",
                "repack -", "leave", "leave ", "leave -", "leave u,v", "leave u v", "leave U", "leave abcdefghi",
                "undo 1", "undo ", "undone", "copies 0", "copy", "built", "built ", "built -", "built a",
                "built 00", "built 01",
                "built 000", "built 1000", "built 0000", "built -1", "built +1", "built 1.0", "built 1_0", "built 0 ",
                "built 0 1", "built \u0660", "built \u00b2", "built 0x1", "built ,", "losses -", "losses u", "loss",
                "feature a", "quit", "help", "a", "u", "0", "x 1"):
            self.assertIsNone(COMMANDS.fullmatch(line))
            self.refused(line)

    def test_line_feeds_and_other_blanks(self):
        for line in LINES:
            for changed in (line + "\n", "\n" + line, line + "\r", line + "\t", line.replace(" ", "\n", 1) + "\n",
                            line + "\nsteps", line + "\u2003", line + "\x00"):
                self.refused(changed)
            if " " in line:
                for blank in ("\n", "\t", "\u00a0", "\r", "  ", ""):
                    self.refused(line.replace(" ", blank))

    def test_of_anything(self):
        for thing in other_things() + deep_things(30) + [
                ["steps"], ("steps",), b"steps", {"steps": 1}, {"steps"}, None, 0, ("view", ()), ["view", "-"]]:
            self.refused(thing)

    def test_changed_lines(self):
        source = random.Random(4)
        kinds = set()
        for _ in range(40):
            for line in LINES:
                for changed in changed_lines(source, line):
                    if COMMANDS.fullmatch(changed) is None:
                        self.refused(changed)
                        kinds.add(False)
                    else:
                        desk = Desk(AB_TEXT)
                        found = result_of(lambda: desk.say(changed))
                        self.assertTrue(isinstance(found, str) or found[0] != BadLine, changed)
                        kinds.add(True)
        self.assertEqual(kinds, {False, True})


class TwoDesks(unittest.TestCase):
    def test_they_know_nothing_of_each_other(self):
        one, other = Desk(AB_TEXT), Desk(AB_TEXT)
        one.say("enter u a x")
        self.assertEqual(other.say("copies"), "-")
        self.assertRaises(NothingToUndo, other.say, "undo")
        self.assertEqual(other.say("enter u b -"), "0")
        self.assertEqual((one.say("built 0"), other.say("built 0")), ("a", "a,b"))
        one.say("undo")
        self.assertEqual((one.say("copies"), other.say("copies")), ("-", "u"))

    def test_other_texts(self):
        one, other = Desk(AB_TEXT), Desk(show_library(STD))
        self.assertEqual((one.say("safe"), other.say("safe")), ("a", "alloc,nostd"))
        self.assertEqual((one.say("safe"), other.say("safe")), ("a", "alloc,nostd"))


class GeneralRules(unittest.TestCase):
    def test_arguments_by_name(self):
        desk = Desk(text=AB_TEXT)
        self.assertEqual(desk.say(line="view -"), "x 1")
        with self.assertRaises(BadLine):
            desk.say(line=None)
        with self.assertRaises(BadText):
            Desk(text=None)

    def test_no_argument_is_changed(self):
        def made():
            return [thing for thing in builtin_things() if not isinstance(thing, str)] + [["steps"], {"a": ["view"]}]

        things = made()
        desk = Desk(AB_TEXT)
        for thing in things:
            self.assertRaises(BadLine, desk.say, thing)
            self.assertRaises(BadText, Desk, thing)
        self.assertEqual(things, made())
        rows = iter(["steps"])
        self.assertRaises(BadLine, desk.say, rows)
        self.assertRaises(BadText, Desk, rows)
        self.assertEqual(list(rows), ["steps"])

    def test_questions_change_nothing(self):
        desk = Desk(AB_TEXT)
        desk.say("enter u a x")
        lines = ("view a,b", "steps", "pair", "safe", "always", "copies", "built 0", "losses")
        first = [desk.say(line) for line in lines]
        self.assertEqual([desk.say(line) for line in lines], first)
        desk.say("undo")
        self.assertRaises(NothingToUndo, desk.say, "undo")

    def test_the_library_is_the_one_that_is_read(self):
        for library in libraries_of_all_sizes(5)[::5]:
            text = show_library(library)
            self.assertEqual(read_library(text), library)
            whole = names_text(features_in(library[0]))
            self.assertEqual(Desk(text).say("view " + whole), pairs_text(view(library, features_in(library[0]))))


if __name__ == "__main__":
    unittest.main()
