import random
import time
import unittest

from mendedruns.desks import Desk
from mendedruns.errors import (
    InvalidArguments, InvalidCommand, InvalidCount, InvalidName, InvalidProgram, InvalidState, LimitExceeded, NameTaken, UnknownName,
)
from mendedruns.logs import Log, replay
from mendedruns.running import run
from tests.building import SUM, Maker, let, n, v, write
from tests.strange import STRANGE
from tests.test_desks import ADD_ARGUMENT, NAMES, NO_NAMES, RAISE
from tests.test_running import WRONG_ARGUMENTS, WRONG_STATES
from tests.test_traces import NO_COUNTS

WRONG_PROGRAM = (let("a", v(1)), ("if", v(1), (), (5,)))
ENTRIES = [
    ("begin", "one", SUM, None), ("advance", "one", 3), ("begin", "two", ADD_ARGUMENT, {"b": 5}), ("commit", "two"), ("refresh", "one"),
    ("begin", "three", RAISE, {}), ("abort", "three"), ("tidy",), ("begin", "four", RAISE, None), ("advance", "four", 0),
    ("commit_all", ("four", "one")), ("commit_all", ()), ("begin", "five", (), {"k": (1, "x"), "a": ""}),
]
RESULTS = [None, 3, None, ("returned", 5), 2, None, None, 1, None, 0, [("returned", 6), ("returned", 7)], [], None]
NO_ENTRIES = STRANGE + [
    (), 0, "", "tidy", {}, ["tidy"], ("tidy", 1), ("tidy", None), ("Tidy",), ("",), (1,), (None,), (True,), (("tidy",),), (["tidy"],), ("stop",),
    ("begin", "six", SUM), ("begin", "six"), ("begin", "six", SUM, None, 1), ("begin",), ("advance", "five"), ("advance", "five", 1, 1),
    ("advance",), ("refresh",), ("refresh", "five", 1), ("commit",), ("commit", "five", 1), ("abort",), ("abort", "five", None), ("commit_all",),
    ("commit_all", ["five"]), ("commit_all", "five"), ("commit_all", None), ("commit_all", ("five",), 1), ("commit_all", "five", "one"),
    ("watch", "six", SUM, None), ("unwatch", "six"), ("state",), ("trial",), ("copy",), ("tidy", ()), ["begin", "six", SUM, None],
]


def full_log():
    """Return a log with entries of all kinds."""
    log = Log({"x": 1, "y": 2})
    for entry in ENTRIES:
        log.perform(entry)
    return log


class Case(unittest.TestCase):
    def check_error(self, error, field, value, log, entry):
        """Check that an entry raises an error, and that nothing is changed or kept."""
        before = (log.entries, log.desk())
        with self.assertRaises(error) as caught:
            log.perform(entry)
        found = getattr(caught.exception, field)
        self.assertTrue(found is value or found == value)
        self.assertTrue((log.entries, log.desk()) == before)
        with self.assertRaises(error):
            replay(log.start, before[0] + [entry])


class LogTest(Case):
    def test_new_logs(self):
        log = Log({"x": 1})
        self.assertEqual((log.entries, log.start, len(log), log.undo()), ([], {"x": 1}, 0, None))
        self.assertTrue(log.desk() == Desk({"x": 1}))
        self.assertTrue(Log(state={}).start == {})
        for name in ("entries", "start"):
            self.assertTrue(isinstance(getattr(Log, name), property))

    def test_entries_and_what_they_return(self):
        log = Log({"x": 1, "y": 2})
        desk = Desk({"x": 1, "y": 2})
        calls = [
            lambda: desk.begin("one", SUM), lambda: desk.advance("one", 3), lambda: desk.begin("two", ADD_ARGUMENT, arguments={"b": 5}),
            lambda: desk.commit("two"), lambda: desk.refresh("one"), lambda: desk.begin("three", RAISE, arguments={}), lambda: desk.abort("three"),
            desk.tidy, lambda: desk.begin("four", RAISE), lambda: desk.advance("four", 0), lambda: desk.commit_all(["four", "one"]),
            lambda: desk.commit_all([]), lambda: desk.begin("five", (), arguments={"k": (1, "x"), "a": ""})]
        for index, (entry, result, call) in enumerate(zip(ENTRIES, RESULTS, calls)):
            self.assertEqual(log.perform(entry=entry), result)
            self.assertEqual(call(), result)
            self.assertTrue(log.desk() == desk, entry)
            self.assertEqual((log.entries, len(log)), (ENTRIES[:index + 1], index + 1))
        self.assertEqual(log.start, {"x": 1, "y": 2})

    def test_desk_is_a_copy(self):
        log = full_log()
        desk = log.desk()
        self.assertTrue(isinstance(desk, Desk))
        desk.commit("five")
        desk.watch("seen", SUM)
        self.assertEqual(log.desk().active, ["five"])
        self.assertTrue(log.desk() == full_log().desk())
        log.perform(("abort", "five"))
        self.assertEqual(desk.ended["five"], ("returned", ""))

    def test_views_of_entries_and_start_are_new(self):
        log = full_log()
        log.start.clear()
        entries = log.entries
        entries[2][3]["b"] = 9
        entries[0] = None
        entries.pop()
        self.assertEqual((log.entries, log.start), (ENTRIES, {"x": 1, "y": 2}))
        self.assertTrue(log == full_log())

    def test_arguments_that_are_changed_later(self):
        state, arguments = {"x": 1}, {"b": 5}
        log = Log(state)
        log.perform(("begin", "one", ADD_ARGUMENT, arguments))
        arguments["b"] = 7
        state["x"] = 3
        self.assertEqual((log.start, log.entries), ({"x": 1}, [("begin", "one", ADD_ARGUMENT, {"b": 5})]))
        self.assertEqual((log.perform(("commit", "one")), log.desk().state()), (("returned", 5), {"x": 6}))
        self.assertEqual(replay(log.start, log.entries).state(), {"x": 6})
        log.undo()
        self.assertEqual(log.undo()[3], {"b": 5})

    def test_no_entries(self):
        log = full_log()
        for wrong in NO_ENTRIES:
            self.check_error(InvalidCommand, "line", wrong, log, wrong)
        self.assertTrue(log == full_log())

    def test_errors_of_the_methods(self):
        log = full_log()
        for wrong in NO_NAMES:
            self.check_error(InvalidName, "value", wrong, log, ("begin", wrong, 5, 6))
        for wrong in [value for value in NO_NAMES] + ["one", "three", "six"]:
            for entry in (("advance", wrong, 1), ("advance", wrong, "x"), ("refresh", wrong), ("commit", wrong), ("abort", wrong), (
                    "commit_all", (wrong,)), ("commit_all", ("five", wrong))):
                self.check_error(UnknownName, "name", wrong, log, entry)
        self.check_error(UnknownName, "name", "five", log, ("commit_all", ("five", "five")))
        for wrong in NO_COUNTS:
            self.check_error(InvalidCount, "value", wrong, log, ("advance", "five", wrong))
        for wrong, place in [(value, ()) for value in STRANGE] + [(WRONG_PROGRAM, (1, "else", 0))]:
            self.check_error(InvalidProgram, "place", place, log, ("begin", "one", wrong, 5))
        for wrong in WRONG_ARGUMENTS:
            self.check_error(InvalidArguments, "value", wrong, log, ("begin", "one", SUM, wrong))
        for name in ("one", "two", "three", "four", "five"):
            self.check_error(NameTaken, "name", name, log, ("begin", name, SUM, None))
        self.assertTrue(log == full_log())

    def test_too_many_runs(self):
        log = Log({})
        for name in NAMES[:20]:
            log.perform(("begin", name, (), None))
        self.check_error(LimitExceeded, "count", 21, log, ("begin", "more", (), None))

    def test_no_states(self):
        for wrong in WRONG_STATES + [None]:
            for call in (lambda: Log(wrong), lambda: replay(wrong, []), lambda: replay(wrong, [5]), lambda: replay(wrong, ENTRIES)):
                with self.assertRaises(InvalidState) as caught:
                    call()
                self.assertTrue(caught.exception.value is wrong)


class UndoTest(Case):
    def test_one_by_one(self):
        log = full_log()
        for count in reversed(range(len(ENTRIES))):
            self.assertEqual(log.undo(), ENTRIES[count])
            self.assertEqual((log.entries, len(log)), (ENTRIES[:count], count))
            self.assertTrue(log.desk() == replay({"x": 1, "y": 2}, ENTRIES[:count]))
        self.assertTrue(log == Log({"x": 1, "y": 2}) and log.desk() == Desk({"x": 1, "y": 2}))
        for turn in range(2):
            self.assertTrue(log.undo() is None)

    def test_done_again(self):
        for count in range(1, len(ENTRIES) + 1):
            log = full_log()
            taken = [log.undo() for turn in range(count)]
            for entry in reversed(taken):
                log.perform(entry)
            self.assertTrue(log == full_log() and log.desk() == full_log().desk())

    def test_other_entries_behind_it(self):
        log = full_log()
        log.undo()
        log.perform(("begin", "five", RAISE, None))
        self.assertEqual(log.perform(("commit", "five")), ("returned", 7))
        self.assertTrue(log.desk() == replay(log.start, log.entries))
        self.assertEqual(log.entries, ENTRIES[:-1] + [("begin", "five", RAISE, None), ("commit", "five")])

    def test_tidy_is_taken_back(self):
        log = Log({"x": 1})
        for entry in (("begin", "one", RAISE, None), ("commit", "one"), ("tidy",)):
            log.perform(entry)
        self.assertFalse(0 in log.desk().store)
        self.assertEqual(log.undo(), ("tidy",))
        self.assertEqual(log.desk().state(0), {"x": 1})

    def test_returned_entries_belong_to_the_caller(self):
        log = full_log()
        log.undo()[3]["a"] = 7
        self.assertEqual(log.entries, ENTRIES[:-1])
        log.perform(ENTRIES[-1])
        self.assertTrue(log == full_log())

    def test_failed_entries_are_not_taken_back(self):
        log = full_log()
        self.check_error(UnknownName, "name", "one", log, ("commit", "one"))
        self.assertEqual(log.undo(), ENTRIES[-1])


class ReplayTest(Case):
    def test_logs(self):
        log = full_log()
        told = replay(entries=log.entries, state=log.start)
        self.assertTrue(isinstance(told, Desk) and told == log.desk())
        self.assertTrue(replay({"x": 1}, []) == Desk({"x": 1}))

    def test_first_error(self):
        entries = [("begin", "one", SUM, None), ("commit", "two"), ("begin", "A", SUM, None), 5]
        for cut, error in ((1, UnknownName), (2, InvalidName), (3, InvalidCommand)):
            with self.assertRaises(error):
                replay({}, entries[:1] + entries[cut:])
        with self.assertRaises(InvalidCommand) as caught:
            replay({}, ENTRIES[:1] + [("tidy", 1)])
        self.assertEqual(caught.exception.line, ("tidy", 1))

    def test_nothing_is_changed(self):
        state, entries = {"x": 1, "y": 2}, full_log().entries
        desk = replay(state, entries)
        desk.commit("five")
        entries[-1][3]["a"] = 9
        self.assertEqual(desk.recorded("five")[1], {"k": (1, "x"), "a": ""})
        self.assertEqual((state, entries[:-1]), ({"x": 1, "y": 2}, ENTRIES[:-1]))

    def test_random_logs(self):
        maker = Maker(random.Random(131))
        for turn in range(40):
            log = Log(maker.state())
            desks = [log.desk()]
            for number in range(40):
                if maker.random.random() < 0.1 and len(log) > 0:
                    log.undo()
                    desks.pop()
                else:
                    log.perform(random_entry(maker, desks[-1], number))
                    desks.append(log.desk())
                self.assertTrue(log.desk() == desks[-1])
            self.assertTrue(replay(log.start, log.entries) == log.desk())
            self.assertEqual(len(log), len(desks) - 1)

    def test_long_logs(self):
        begin = time.process_time()
        log = Log({"x": 1})
        for number in range(400):
            name = "n" + "abcdefghij"[number // 100] + "abcdefghij"[number // 10 % 10] + "abcdefghij"[number % 10]
            log.perform(("begin", name, RAISE, None))
            log.perform(("commit", name))
        for turn in range(10):
            log.undo()
        self.assertEqual((log.desk().state(), len(log)), ({"x": 396}, 790))
        self.assertTrue(time.process_time() - begin < 10)


def random_entry(maker, desk, number):
    """Return an entry that can be performed at a desk."""
    word = maker.random.choice(["begin", "begin", "advance", "advance", "refresh", "commit", "commit", "abort", "commit_all", "tidy"])
    if word == "tidy":
        return ("tidy",)
    if word == "commit_all":
        return (word, tuple(maker.random.sample(desk.active, maker.random.randrange(len(desk) + 1))))
    if word == "begin" and len(desk) < 20 or len(desk) == 0:
        taken = desk.active + list(desk.ended)
        names = [name for name in NAMES if name not in taken]
        name = "n" * (1 + number // 26) + "abcdefghijklmnopqrstuvwxyz"[number % 26] + maker.random.choice(names)
        return ("begin", name, maker.program(maker.random.randrange(1, 12)), maker.arguments())
    name = maker.random.choice(desk.active)
    return ("advance", name, maker.random.choice([0, 1, 2, 5, 1000])) if word == "advance" else (word if word != "begin" else "commit", name)


class EqualityTest(Case):
    def test_equal_logs(self):
        self.assertTrue(full_log() == full_log())
        self.assertFalse(full_log() != full_log())
        self.assertTrue(Log({"x": 1, "y": 2}) == Log({"y": 2, "x": 1}))

    def test_unequal_beginnings(self):
        for state in ({}, {"x": 2}, {"x": 1, "y": 1}, {"y": 1}, {"x": (1,)}, {"x": "1"}):
            self.assertFalse(Log({"x": 1}) == Log(state))

    def test_unequal_entries(self):
        last_ones = [
            ("advance", "one", 1), ("advance", "one", 2), ("advance", "two", 1), ("refresh", "one"), ("refresh", "two"), ("commit", "one"),
            ("commit", "two"), ("commit_all", ("one",)), ("commit_all", ("one", "two")), ("commit_all", ("two", "one")), ("abort", "one"), (
                "tidy",), ("begin", "three", SUM, None), ("begin", "three", SUM, {}), ("begin", "three", SUM, {"b": 1}), (
                "begin", "three", SUM, {"b": "1"}), ("begin", "three", SUM, {"c": 1}), ("begin", "three", SUM[:3], None), (
                "begin", "four", SUM, None)]
        logs = []
        for entry in last_ones:
            logs.append(Log({"x": 1}))
            for first in (("begin", "one", SUM, None), ("begin", "two", RAISE, {"b": 1}), entry):
                logs[-1].perform(first)
        for index, log in enumerate(logs):
            self.assertEqual([at for at, other in enumerate(logs) if log == other], [index])

    def test_the_way_to_the_entries_does_not_count(self):
        log = full_log()
        log.perform(("commit", "five"))
        self.assertFalse(log == full_log())
        log.undo()
        self.assertTrue(log == full_log())

    def test_equal_desks_of_unequal_logs(self):
        one, other = Log({}), Log({})
        other.perform(("commit_all", ()))
        self.assertTrue(one.desk() == other.desk())
        self.assertFalse(one == other)
        other.undo()
        one.perform(("begin", "one", (write("x", 1),), {"a": 1, "b": 2}))
        other.perform(("begin", "one", (write("x", 1),), {"b": 2, "a": 1}))
        self.assertTrue(one == other)

    def test_unlike_kinds(self):
        log = Log({})
        for other in STRANGE[:-4] + [0, "", {}, (), Desk({}), run((), {})]:
            if type(other).__name__ != "Hostile":
                self.assertFalse(log == other)
        self.assertFalse(log == n("a"))


if __name__ == "__main__":
    unittest.main()
