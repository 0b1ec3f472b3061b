import random
import unittest

from mendedruns.console import Console
from mendedruns.desks import Desk
from mendedruns.errors import InvalidCommand, InvalidName, LimitExceeded, NameTaken, ParseError, UnknownName
from mendedruns.journals import journal, recover
from mendedruns.texts import format_program, format_value
from tests.building import ENDLESS, RAISE_ALL, SUM, Maker, write
from tests.strange import STRANGE
from tests.test_desks import NAMES, RAISE, TAKE, Case

RAISE_X = "(read a 'x) (write 'x (add a 1)) (return a)"
# Words that are no names of anything, whatever stands beside them.
NO_NAMES = ["", "A", "a0", "0", "a" * 13, "-", "'a", "\u00e9", "one\n", "\tone"]
WRONG_LINES = [
    "", " ", "  ", "begin", "begins one", "Begin one", " begin one", "\tbegin one", "watch", "advance", "advance one", "advance one 1 ", "advance one 1 2",
    "advance  one 1", "advance one  1", " advance one 1", "refresh", "refresh one two", "refresh one ", "refresh  one", "commit", "commit one two",
    "commit one ", "commit_all one", "abort", "abort one two", "abort one ", "show", "show x y", "show x ", "show  x", "open ", " open", "open one",
    "Open", "view", "view a b", "view a ", "journal ", "journal x", "moment ", "moment 0", " moment", "moments", "tidy", "unwatch a", "undo", "help", "state",
    "open\n", "moment\n", "begin\tone", "advance\tone\t1", "\n", "\u00e9", "'open", "(open)", "{}", "%",
]


def console_after(*lines):
    """Return a console that has executed these lines."""
    console = Console()
    for line in lines:
        console.execute(line)
    return console


class AnswersTest(unittest.TestCase):
    def check(self, console, *pairs):
        """Check the answers to lines."""
        for line, answer in pairs:
            told = console.execute(line)
            self.assertEqual((line, told), (line, answer))
            self.assertTrue(isinstance(told, str))

    def test_example(self):
        self.check(Console(), ("begin one (write 'x 5) (return 1)", "ok"), ("commit one", "returned 1"), ("show x", "5"))

    def test_new_consoles(self):
        console = Console()
        self.check(console, ("open", "-"), ("moment", "0"), ("journal", "0 - 247"), ("show x", "-"))
        self.assertEqual(len(console), 0)

    def test_runs(self):
        console = Console()
        self.check(
            console, ("begin zero (write 'x 1)", "ok"), ("open", "zero"), ("advance zero 3", "1"), ("commit zero", "returned '"), ("moment", "1"),
            ("begin one " + RAISE_X, "ok"), ("begin two " + RAISE_X, "ok"), ("open", "one two"), ("advance one 2", "2"), ("advance one 0", "0"),
            ("advance two 7", "3"), ("advance two 7", "0"), ("show x", "1"), ("commit two", "returned 1"), ("show x", "2"), ("refresh one", "2"),
            ("refresh one", "0"), ("advance one 1", "1"), ("open", "one"), ("commit one", "returned 2"), ("open", "-"), ("moment", "3"), ("show x", "3"))

    def test_aborted_runs(self):
        console = console_after("begin one (write 'x 1)", "advance one 1")
        self.check(console, ("abort one", "ok"), ("show x", "-"), ("moment", "0"), ("open", "-"))
        self.assertRaises(NameTaken, console.execute, "begin one")

    def test_order_of_open_runs(self):
        console = console_after("begin b", "begin c", "begin a", "commit c", "begin aa")
        self.check(console, ("open", "b a aa"))
        self.assertEqual(len(console), 3)

    def test_endings(self):
        for program, answer in (
                ("", "returned '"), ("(return -5)", "returned -5"), ("(return 'ab)", "returned 'ab"), ("(return [1 ['a] '])", "returned [1 ['a] ']"),
                ("(refuse 'no)", "refused 'no"), ("(refuse [])", "refused []"), ("(refuse 0)", "refused 0"), ("(return q)", "refused 'name"),
                ("(return (divide 1 0))", "refused 'zero"), ("(write 1 1)", "refused 'kind"), ("(while 1 {})", "refused 'steps")):
            console = console_after("begin one " + program, "watch two " + program)
            self.check(console, ("commit one", answer), ("view two", answer))

    def test_values(self):
        for text in ("0", "-7", "9" * 60, "'", "'ab1", "[]", "[1 'ab []]", "[[1 2] ' -3]"):
            console = console_after("begin one (write 'k " + text + ")", "commit one")
            self.check(console, ("show k", text))

    def test_keys_that_are_not_there(self):
        console = console_after("begin one (write 'x 5) (write 'y 1) (delete 'y)", "commit one")
        for word in ("y", "z", "xx", "X", "", "'x", "x!", "a" * 61, "\u00e9", "x\n", "[x]", "-", "None", "name", "0"):
            self.check(console, ("show " + word, "-"))
        self.check(console, ("show x", "5"))

    def test_programs_of_no_words(self):
        console = Console()
        self.check(console, ("begin one", "ok"), ("begin two ", "ok"), ("advance one 5", "0"), ("commit two", "returned '"), ("watch one", "ok"), (
            "watch two ", "ok"), ("view two", "returned '"))

    def test_views(self):
        console = console_after("watch all (scan k ' {}) (return k)", "watch x (read a 'x) (return a)")
        self.check(
            console, ("view all", "refused 'name"), ("view x", "returned '"), ("begin one (write 'x 4)", "ok"), ("advance one 1", "1"), ("view x", "returned '"),
            ("commit one", "returned '"), ("view all", "returned 'x"), ("view x", "returned 4"), ("moment", "1"), ("open", "-"))
        self.check(console, ("begin x", "ok"), ("watch one (refuse 1)", "ok"), ("view one", "refused 1"))

    def test_journals(self):
        console = console_after("begin one (write 'x [1 ['a]]) (write 'a ')", "commit one", "begin two (delete 'x) (write 'a ')", "commit two", "begin three")
        text = console.execute("journal")
        self.assertEqual([line.rsplit(" ", 1)[0] for line in text.split("\n")], ["0 -", "1 a=' x=[1_['a]]", "2 x!"])
        store, lost = recover(text + "\n")
        self.assertEqual((store.now, store.moment, lost), ({"a": ""}, 2, 0))
        self.assertEqual(journal(store), text + "\n")

    def test_counts(self):
        endless = format_program(ENDLESS)
        for digits, answer in (("0", "0"), ("1", "1"), ("10", "10"), ("999", "999"), ("1000", "1000"), ("1001", "1000"), ("9" * 60, "1000"), (
                "9" * 61, "1000"), ("1" + "0" * 5000, "1000"), ("1" * 100000, "1000")):
            console = console_after("begin one " + endless)
            self.check(console, ("advance one " + digits, answer), ("advance one 1000", "%d" % (1000 - int(answer))))

    def test_consoles_are_equal_only_to_themselves(self):
        one, other = Console(), Console()
        self.assertTrue(one == one and not one != one)
        self.assertFalse(one == other or one == Desk({}) or one == 0 or one is None)
        one.execute(line="begin one")
        self.assertEqual((len(one), len(other)), (1, 0))

    def test_like_a_desk(self):
        maker = Maker(random.Random(137))
        for turn in range(20):
            console, desk = Console(), Desk({})
            for key in ("x", "y", "ua"):
                name = "w" + key
                program = (write(key, maker.random.randrange(4)),)
                desk.begin(name, program)
                self.check(console, ("begin " + name + " " + format_program(program), "ok"), ("commit " + name, "returned '"))
                desk.commit(name)
            for number in range(25):
                self.act(maker, console, desk, "n" + "abcdefghijklmnopqrstuvwxyz"[number])
            self.check(
                console, ("journal", journal(desk.store)[:-1]), ("moment", str(desk.moment)), ("open", " ".join(desk.active) or "-"))
            for key in ("x", "y", "ua", "ub", "uc", "ud"):
                self.check(console, ("show " + key, format_value(desk.state()[key]) if key in desk.state() else "-"))
            for name, (ending, done) in desk.views.items():
                self.check(console, ("view " + name, "%s %s" % (ending[0], format_value(ending[1]))))

    def act(self, maker, console, desk, name):
        """Do one thing at both."""
        word = maker.random.choice(["begin", "begin", "advance", "advance", "refresh", "commit", "abort", "watch"])
        if word in ("begin", "watch") or len(desk) == 0:
            word = "begin" if len(desk.views) == 10 else word if word == "watch" else "begin"
            program = maker.program(maker.random.randrange(1, 12))
            getattr(desk, word)(name, program)
            self.check(console, (word + " " + name + " " + format_program(program), "ok"))
            return
        name = maker.random.choice(desk.active)
        if word == "advance":
            self.check(console, ("advance " + name + " 3", str(desk.advance(name, 3))))
        elif word == "refresh":
            self.check(console, ("refresh " + name, str(desk.refresh(name))))
        elif word == "commit":
            ending = desk.commit(name)
            self.check(console, ("commit " + name, "%s %s" % (ending[0], format_value(ending[1]))))
        else:
            desk.abort(name)
            self.check(console, ("abort " + name, "ok"))


class ErrorsTest(Case):
    def setUp(self):
        self.console = console_after("begin one " + RAISE_X, "begin two (return 1)", "commit two", "begin three", "abort three", "watch seen (return 2)")

    def check_refused(self, error, field, value, line):
        """Check that a line raises an error, and that nothing is changed."""
        told = ["open", "moment", "journal", "view seen"]
        before = [self.console.execute(asked) for asked in told]
        with self.assertRaises(error) as caught:
            self.console.execute(line)
        found = getattr(caught.exception, field)
        self.assertTrue(found is value or found == value, found)
        self.assertEqual([self.console.execute(asked) for asked in told], before)

    def test_no_lines(self):
        for wrong in STRANGE + [0, 1, (), ("open",), {}, ["open"], b"open"]:
            self.check_refused(InvalidCommand, "line", wrong, wrong)

    def test_no_commands(self):
        for line in WRONG_LINES:
            self.check_refused(InvalidCommand, "line", line, line)

    def test_wrong_names_of_runs(self):
        for name in NO_NAMES:
            for word in ("begin", "watch"):
                for program in ("", " ", " (", " (return 1)", " (stop)"):
                    self.check_refused(InvalidName, "value", name, word + " " + name + program)

    def test_programs_that_cannot_be_read(self):
        for word in ("begin", "watch"):
            for name in ("four", "one", "two", "seen"):
                for program in ("(", "x", " ", "  ", "(stop)", " (return 1)", "(return 1) ", "(return 1)  (return 2)", "(return 01)", "(let a 1))", "\n", "\t",
                                "(return " + "9" * 5000 + ")", "(" * 5000, "(return 1)\n"):
                    self.check_refused(ParseError, "text", program, word + " " + name + " " + program)

    def test_names_that_are_taken(self):
        for name in ("one", "two", "three"):
            self.check_refused(NameTaken, "name", name, "begin " + name)
            self.check_refused(NameTaken, "name", name, "begin " + name + " (return 1)")
        self.check_refused(NameTaken, "name", "seen", "watch seen (return 1)")

    def test_unknown_names(self):
        for name in NO_NAMES + ["two", "three", "seen", "four"]:
            for line in ("refresh ", "commit ", "abort "):
                self.check_refused(UnknownName, "name", name, line + name)
            for count in ("1", "0", "", "x", "01", "9" * 5000):
                self.check_refused(UnknownName, "name", name, "advance " + name + " " + count)
        for name in NO_NAMES + ["one", "two", "four"]:
            self.check_refused(UnknownName, "name", name, "view " + name)

    def test_wrong_counts(self):
        for count in ("", "x", "01", "00", "-1", "-0", "+1", "1.0", "1_0", "0x1", "1e3", "\u0661", "\u00b2", "1\n", "\n1", "'1", "0" * 5000, "0" + "1" * 5000,
                      "1" * 5000 + "x", "one"):
            self.check_refused(ParseError, "text", count, "advance one " + count)

    def test_too_many_runs_and_views(self):
        console = Console()
        for name in NAMES[:20]:
            console.execute("begin " + name)
        for name in NAMES[:10]:
            console.execute("watch " + name)
        for line, count in (("begin more", 21), ("watch more (return 1)", 11)):
            with self.assertRaises(LimitExceeded) as caught:
                console.execute(line)
            self.assertEqual(caught.exception.count, count)
        for line, error in (("begin more (", ParseError), ("watch Z", InvalidName), ("begin " + NAMES[0], NameTaken)):
            self.assertRaises(error, console.execute, line)

    def test_refused_lines_change_nothing(self):
        self.assertEqual(self.console.execute("advance one 9"), "2")
        self.check_refused(NameTaken, "name", "one", "begin one")
        self.assertEqual([self.console.execute(line) for line in ("refresh one", "commit one", "show x")], ["0", "refused 'kind", "-"])


class ProgramsTest(unittest.TestCase):
    def test_programs_are_taken_as_they_are_written(self):
        for number, program in enumerate((SUM, RAISE_ALL, TAKE, RAISE, ())):
            console = Console()
            console.execute("begin one " + format_program(program))
            desk = Desk({})
            desk.begin("one", program)
            ending = desk.commit("one")
            self.assertEqual(console.execute("commit one"), "%s %s" % (ending[0], format_value(ending[1])), number)


if __name__ == "__main__":
    unittest.main()
