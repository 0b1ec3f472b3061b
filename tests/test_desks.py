import random
import unittest

from mendedruns.desks import Desk, preview
from mendedruns.errors import (
    Broken, InvalidArguments, InvalidCount, InvalidName, InvalidProgram, InvalidState, LimitExceeded, NameTaken, UnknownMoment,
    UnknownName,
)
from mendedruns.mending import mend
from mendedruns.running import run
from tests.building import ENDLESS, RAISE_ALL, SUM, add, let, n, read, steps_program, v, write
from tests.strange import STRANGE
from tests.test_running import WRONG_ARGUMENTS, WRONG_STATES
from tests.test_stores import NO_MOMENTS
from tests.test_traces import NO_COUNTS

# Adds one to what is under the key x.
RAISE = (read("a", v("x")), ("write", v("x"), add(n("a"), v(1))), ("return", n("a")))
# Is refused unless there is at least 1 under the key x, and takes it away.
TAKE = (read("a", v("x")), ("if", ("less", n("a"), v(1)), (("refuse", v("empty")),), ()), (
    "write", v("x"), ("subtract", n("a"), v(1))), ("return", v("taken")))
ADD_ARGUMENT = (read("a", v("x")), ("write", v("x"), add(n("a"), n("b"))), ("return", n("b")))
# Holds unless the value under the key x, or y, is less than 0.
NOT_BELOW_ZERO = (read("a", v("x")), ("if", ("less", n("a"), v(0)), (("refuse", v("below")),), ()))
Y_NOT_BELOW_ZERO = (read("a", v("y")), ("if", ("less", n("a"), v(0)), (("refuse", v("below")),), ()))
LESSEN = (read("a", v("x")), ("write", v("x"), ("subtract", n("a"), n("b"))), ("return", n("a")))
HOLDS = ()
NO_NAMES = STRANGE + ["", "A", "a0", "0", "a" * 13, "a b", 0, 1, (), ("one",), {}, ["one"]]
NAMES = [a + b for a in "abcde" for b in "abcdefgh"]


def busy_desk():
    """Return a desk with open, committed, broken and aborted runs, with constraints and views."""
    desk = Desk({"x": 3, "y": 1}, constraints=(HOLDS, NOT_BELOW_ZERO))
    desk.watch("seen", RAISE, arguments={"c": 1})
    for name, program, arguments in (("one", RAISE, None), ("two", LESSEN, {"b": 9}), ("three", SUM, {}), ("four", RAISE, None)):
        desk.begin(name, program, arguments=arguments)
    desk.advance("three", 2)
    desk.commit("one")
    desk.commit("two")
    desk.abort("four")
    desk.begin("five", ADD_ARGUMENT, arguments={"b": 2})
    desk.advance("five")
    return desk


class Case(unittest.TestCase):
    def check_error(self, error, field, value, call, desk=None):
        """Check that a call raises an error that holds a value, and changes no desk."""
        before = desk and desk.copy()
        with self.assertRaises(error) as caught:
            call()
        found = getattr(caught.exception, field)
        self.assertTrue(found is value or found == value, found)
        if desk is not None:
            self.assertTrue(desk == before)

    def check_open(self, desk, name, moment, steps, done):
        """Check the moment, the number of steps and the number of steps done of an open run."""
        found = (desk.begun(name), len(desk.trace_of(name)), desk.done_by(name))
        self.assertEqual(found, (moment, steps, done))


class BeginningTest(Case):
    def test_example(self):
        desk = Desk({"x": 1, "y": 2})
        self.assertTrue(desk.begin("one", SUM) is None)
        self.assertEqual(desk.advance("one", 4), 4)
        desk.begin("two", (("write", v("x"), v(5)),))
        self.assertEqual(desk.commit("two"), ("returned", ""))
        self.assertEqual((desk.commit("one"), desk.state(), desk.committed("one")[2]), (
            ("returned", 5), {"x": 5, "y": 2, "z": 7}, 7))

    def test_new_desk(self):
        desk = Desk({"x": 1})
        self.assertEqual((desk.active, desk.ended, desk.moment, desk.state(), desk.views, len(desk)), (
            [], {}, 0, {"x": 1}, {}, 0))
        self.assertEqual(Desk(state={}, constraints=()).state(), {})

    def test_properties(self):
        for name in ("active", "ended", "moment", "views"):
            self.assertTrue(isinstance(getattr(Desk, name), property))

    def test_begin(self):
        desk = Desk({"x": 1, "y": 2})
        desk.begin("one", SUM)
        desk.begin(arguments={"b": 1}, program=ADD_ARGUMENT, name="two")
        self.assertEqual((desk.active, len(desk), desk.moment, desk.ended), (["one", "two"], 2, 0, {}))
        for name in ("one", "two"):
            self.check_open(desk, name, 0, 0, 0)
        self.assertEqual(desk.trace_of("one"), run(SUM, {"x": 1, "y": 2}).first(0))
        self.assertTrue(desk.trace_of("one").ending is None)

    def test_a_run_without_steps(self):
        desk = Desk({})
        desk.begin("one", ())
        self.assertEqual(desk.trace_of("one").ending, ("returned", ""))
        self.assertEqual((desk.advance("one"), desk.commit("one"), desk.committed("one")), (
            0, ("returned", ""), (1, run((), {}), 0)))

    def test_names_that_are_taken(self):
        desk = busy_desk()
        for name in ("one", "two", "three", "four", "five"):
            self.check_error(NameTaken, "name", name, lambda: desk.begin(name, SUM), desk)
        desk.begin("seen", SUM)
        desk.watch("five", SUM)

    def test_twenty_open_runs(self):
        desk = Desk({})
        for name in NAMES[:20]:
            desk.begin(name, ())
        self.check_error(LimitExceeded, "count", 21, lambda: desk.begin("more", ()), desk)
        self.assertEqual(desk.active, NAMES[:20])
        desk.commit(NAMES[3])
        desk.begin("more", ())
        self.check_error(LimitExceeded, "count", 21, lambda: desk.begin("again", ()), desk)
        desk.abort("more")
        desk.begin("again", ())
        self.assertEqual(desk.active, NAMES[:3] + NAMES[4:20] + ["again"])

    def test_errors_of_begin(self):
        desk = busy_desk()
        for wrong in NO_NAMES:
            self.check_error(InvalidName, "value", wrong, lambda: desk.begin(wrong, 5, arguments=6), desk)
        for wrong in STRANGE + [[], "", 0]:
            self.check_error(InvalidProgram, "place", (), lambda: desk.begin("one", wrong, arguments=6), desk)
        self.check_error(InvalidProgram, "place", (1,), lambda: desk.begin("new", (let("a", v(1)), 5)), desk)
        for wrong in WRONG_ARGUMENTS:
            for name in ("one", "new"):
                self.check_error(InvalidArguments, "value", wrong, lambda: desk.begin(name, SUM, arguments=wrong), desk)
        self.assertRaises(TypeError, desk.begin, "new", SUM, {})

    def test_errors_with_twenty_open_runs(self):
        desk = Desk({})
        for name in NAMES[:20]:
            desk.begin(name, ())
        self.check_error(InvalidName, "value", "A", lambda: desk.begin("A", ()), desk)
        self.check_error(InvalidArguments, "value", 5, lambda: desk.begin("new", (), arguments=5), desk)
        self.check_error(NameTaken, "name", NAMES[0], lambda: desk.begin(NAMES[0], ()), desk)

    def test_errors_of_desks(self):
        for wrong in WRONG_STATES + [None]:
            self.check_error(InvalidState, "value", wrong, lambda: Desk(wrong, constraints=5))
        for wrong in STRANGE + [0, 1, "", {}, [], [HOLDS], (HOLDS,) * 11, (5,) * 11]:
            self.check_error(InvalidProgram, "place", (), lambda: Desk({}, constraints=wrong))
        self.assertRaises(TypeError, Desk, {}, ())


class AdvancingTest(Case):
    def test_advance(self):
        desk = Desk({"x": 1, "y": 2})
        desk.begin("one", SUM)
        whole = run(SUM, {"x": 1, "y": 2})
        for steps in (1, 2):
            self.assertEqual(desk.advance("one"), 1)
            self.check_open(desk, "one", 0, steps, steps)
            self.assertEqual(desk.trace_of("one"), whole.first(steps))
        self.assertEqual(desk.advance(count=7, name="one"), 2)
        self.assertEqual((desk.trace_of("one"), desk.done_by("one"), desk.advance("one", 5)), (whole, 4, 0))
        self.assertEqual(desk.state(), {"x": 1, "y": 2})

    def test_advance_by_nothing(self):
        desk = Desk({})
        desk.begin("one", SUM)
        self.assertEqual(desk.advance("one", 0), 0)
        self.check_open(desk, "one", 0, 0, 0)

    def test_state_of_the_moment_of_the_beginning(self):
        desk = Desk({"x": 1})
        desk.begin("one", RAISE)
        desk.begin("two", RAISE)
        desk.commit("two")
        desk.begin("three", RAISE)
        for name, value, moment in (("one", 1, 0), ("three", 2, 1)):
            desk.advance(name, 9)
            self.assertEqual(desk.trace_of(name), run(RAISE, {"x": value}))
            self.check_open(desk, name, moment, 3, 3)

    def test_runs_that_refuse(self):
        desk = Desk({})
        desk.begin("one", TAKE)
        self.assertEqual((desk.advance("one", 10), desk.trace_of("one").ending), (2, ("refused", "kind")))

    def test_errors(self):
        desk = busy_desk()
        for wrong in NO_COUNTS:
            self.check_error(InvalidCount, "value", wrong, lambda: desk.advance("three", wrong), desk)
        for name in NO_NAMES + ["one", "two", "four", "seen", "none"]:
            for count in (1, -1, "x", None):
                self.check_error(UnknownName, "name", name, lambda: desk.advance(name, count), desk)
        self.check_error(UnknownName, "name", "none", lambda: desk.advance(count=5, name="none"), desk)


class RefreshingTest(Case):
    def test_refresh(self):
        desk = Desk({"x": 1, "y": 2})
        desk.begin("one", SUM)
        desk.advance("one", 3)
        desk.begin("two", (write("x", 5),))
        desk.commit("two")
        self.assertEqual(desk.refresh("one"), 2)
        self.check_open(desk, "one", 1, 3, 5)
        self.assertEqual(desk.trace_of("one"), run(SUM, {"x": 5, "y": 2}).first(3))
        self.assertEqual((desk.refresh("one"), desk.done_by("one")), (0, 5))
        self.assertEqual((desk.advance("one", 2), desk.commit("one"), desk.committed("one")[2]), (1, ("returned", 5), 6))

    def test_nothing_was_read(self):
        desk = Desk({"x": 1})
        desk.begin("one", RAISE)
        desk.begin("two", (write("y", 5),))
        desk.commit("two")
        self.assertEqual((desk.refresh("one"), desk.begun("one"), desk.done_by("one")), (0, 1, 0))
        desk.advance("one", 3)
        self.assertEqual((desk.refresh(name="one"), desk.done_by("one")), (0, 3))

    def test_fewer_steps(self):
        desk = Desk({"x": 5})
        desk.begin("one", TAKE)
        desk.advance("one", 4)
        desk.begin("two", (write("x", 0),))
        desk.commit("two")
        self.assertEqual(desk.refresh("one"), 3)
        self.check_open(desk, "one", 1, 3, 7)
        self.assertEqual(desk.trace_of("one").ending, ("refused", "empty"))
        desk.begin("three", (write("x", 6),))
        desk.commit("three")
        self.assertEqual(desk.refresh("one"), 3)
        self.check_open(desk, "one", 2, 3, 10)
        self.assertEqual((desk.trace_of("one").ending, desk.advance("one", 5)), (None, 1))

    def test_steps_that_are_far_in_the_old_trace(self):
        # In the mended beginning a step is kept only if the old beginning has it.
        program = (read("l", v("x")), ("each", "i", n("l"), (let("a", n("i")),)), let("b", v(1)))
        desk = Desk({"x": (1, 2, 3)})
        desk.begin("one", program)
        desk.advance("one", 3)
        desk.begin("two", (write("x", (1,)),))
        desk.commit("two")
        self.assertEqual(desk.refresh("one"), 2)
        self.check_open(desk, "one", 1, 3, 5)
        desk.begin("three", (write("x", ()),))
        desk.commit("three")
        self.assertEqual(desk.refresh("one"), 3)
        self.assertEqual(desk.trace_of("one").ending, ("returned", ""))

    def test_errors(self):
        desk = busy_desk()
        for name in NO_NAMES + ["one", "two", "four", "seen", "none"]:
            self.check_error(UnknownName, "name", name, lambda: desk.refresh(name), desk)


class CommittingTest(Case):
    def test_commit(self):
        desk = Desk({"x": 1})
        desk.begin("one", RAISE)
        self.assertEqual(desk.commit(name="one"), ("returned", 1))
        self.assertEqual((desk.state(), desk.moment, desk.active, desk.ended), ({"x": 2}, 1, [], {"one": ("returned", 1)}))
        self.assertEqual(desk.committed("one"), (1, run(RAISE, {"x": 1}), 3))

    def test_steps_done(self):
        for steps, refreshed, done in ((0, False, 3), (1, False, 4), (3, False, 6), (3, True, 6), (1, True, 4), (0, True, 3)):
            desk = Desk({"x": 1})
            desk.begin("one", RAISE)
            desk.advance("one", steps)
            desk.begin("two", RAISE)
            desk.commit("two")
            if refreshed:
                desk.refresh("one")
            desk.commit("one")
            self.assertEqual((desk.committed("one"), desk.state()), ((2, run(RAISE, {"x": 2}), done), {"x": 3}))

    def test_kept_steps(self):
        desk = Desk({"x": 1, "y": 2})
        desk.begin("one", SUM)
        desk.advance("one", 4)
        desk.begin("two", (write("y", 7),))
        desk.commit("two")
        desk.commit("one")
        self.assertEqual((desk.committed("one")[2], desk.state()), (6, {"x": 1, "y": 7, "z": 8}))

    def test_refused_at_the_beginning_and_returned_at_the_commit(self):
        desk = Desk({"x": 0})
        desk.begin("one", TAKE)
        desk.advance("one", 9)
        self.assertEqual(desk.trace_of("one").ending, ("refused", "empty"))
        desk.begin("two", RAISE)
        desk.commit("two")
        self.assertEqual((desk.commit("one"), desk.state(), desk.moment), (("returned", "taken"), {"x": 0}, 2))

    def test_returned_at_the_beginning_and_refused_at_the_commit(self):
        desk = Desk({"x": 1})
        desk.begin("one", TAKE)
        desk.begin("two", TAKE)
        desk.advance("one", 9)
        self.assertEqual((desk.commit("two"), desk.commit("one")), (("returned", "taken"), ("refused", "empty")))
        self.assertEqual((desk.state(), desk.moment, desk.committed("one")[1].effect), ({"x": 0}, 2, {}))
        self.assertEqual(desk.state(1), desk.state(2))

    def test_programs_one_by_one_in_the_order_of_the_commits(self):
        desk = Desk({"x": 3})
        for name, program, arguments in (("one", RAISE, None), ("two", ADD_ARGUMENT, {"b": 5}), ("three", TAKE, None)):
            desk.begin(name, program, arguments=arguments)
            desk.advance(name, 2)
        endings = [desk.commit(name) for name in ("two", "three", "one")]
        self.assertEqual((endings, desk.state()), ([("returned", 5), ("returned", "taken"), ("returned", 7)], {"x": 8}))
        self.assertEqual(list(desk.ended), ["two", "three", "one"])
        self.assertEqual([desk.state(moment)["x"] for moment in range(4)], [3, 8, 7, 8])

    def test_deletions_and_scans(self):
        desk = Desk({"ua": 1, "ub": 2})
        desk.begin("one", RAISE_ALL)
        desk.advance("one", 9)
        desk.begin("two", (("delete", v("ua")), write("uc", 7)))
        desk.commit("two")
        desk.commit("one")
        self.assertEqual((desk.state(), desk.committed("one")[2]), ({"ub": 3, "uc": 8}, 5 + 3))

    def test_abort(self):
        desk = Desk({"x": 1})
        desk.begin("one", RAISE)
        desk.begin("two", RAISE)
        desk.advance("one", 3)
        self.assertTrue(desk.abort(name="one") is None)
        self.assertEqual((desk.active, desk.state(), desk.moment, desk.ended), (["two"], {"x": 1}, 0, {}))
        for call in (desk.commit, desk.abort, desk.committed, desk.recorded, desk.trace_of):
            self.check_error(UnknownName, "name", "one", lambda: call("one"), desk)

    def test_runs_that_do_not_end(self):
        desk = Desk({"x": 1})
        program = (read("a", v("x")),) + ENDLESS
        desk.begin("one", program)
        self.assertEqual([desk.advance("one", count) for count in (999, 1, 1)], [999, 1, 0])
        self.assertEqual(desk.trace_of("one").ending, ("refused", "steps"))
        desk.begin("two", RAISE)
        desk.begin("three", program)
        self.assertEqual(desk.advance("three", 2000), 1000)
        desk.commit("two")
        self.assertEqual((desk.refresh("one"), desk.done_by("one")), (1, 1001))
        self.assertEqual((desk.commit("one"), desk.commit("three")), (("refused", "steps"), ("refused", "steps")))
        self.assertEqual((desk.state(), desk.committed("one")[2], desk.committed("three")[2]), ({"x": 2}, 1001, 1001))

    def test_one_step_at_a_time(self):
        desk = Desk({})
        desk.begin("one", steps_program(1000))
        for step in range(1000):
            self.assertEqual(desk.advance("one"), 1)
        self.assertEqual((desk.commit("one"), desk.state(), desk.committed("one")[2]), (("returned", ""), {}, 1000))

    def test_errors(self):
        desk = busy_desk()
        for call in (desk.commit, desk.abort):
            for name in NO_NAMES + ["one", "two", "four", "seen", "none"]:
                self.check_error(UnknownName, "name", name, lambda: call(name), desk)


class CommitAllTest(Case):
    def desk(self):
        desk = Desk({"x": 1, "y": 2}, constraints=(NOT_BELOW_ZERO,))
        for name, program, arguments in (
                ("one", RAISE, None), ("two", TAKE, None), ("three", LESSEN, {"b": 5}), ("four", SUM, None)):
            desk.begin(name, program, arguments=arguments)
            desk.advance(name, 2)
        return desk

    def test_like_single_commits(self):
        for names in ([], ["one"], ["four", "one"], ["one", "three", "two", "four"]):
            one, other = self.desk(), self.desk()
            told = preview(one, names)
            self.assertTrue(one == other)
            endings = other.commit_all(names)
            self.assertEqual(told[:2], (endings, other.state()))
            self.assertEqual(told[2], sum(other.committed(name)[2] - one.done_by(name) for name in names))
            self.assertEqual(endings, [one.commit(name) for name in names])
            self.assertTrue(one == other)

    def test_broken_and_refused_ones(self):
        desk = self.desk()
        endings = [("returned", "taken"), ("broken", 0), ("returned", 0), ("returned", 1)]
        self.assertEqual(preview(desk, ["two", "three", "one", "four"]), (endings, {"x": 1, "y": 2, "z": 3}, 2 + 3 + 3 + 2))
        self.assertEqual(desk.commit_all(names=["two", "three", "one", "four"]), endings)
        self.assertEqual((desk.moment, desk.active, desk.state()), (4, [], {"x": 1, "y": 2, "z": 3}))

    def test_names_are_not_changed(self):
        names = ["two", "one"]
        preview(self.desk(), names)
        self.desk().commit_all(names)
        self.assertEqual(names, ["two", "one"])

    def test_preview_does_not_change_the_desk(self):
        desk, copy = busy_desk(), busy_desk()
        endings, state, done = preview(names=["five", "three"], desk=desk)
        state["x"] = 77
        endings.clear()
        self.assertTrue(desk == copy)
        self.assertEqual(preview(desk, ["five", "three"]), ([("returned", 2), ("returned", 6)], {"x": 6, "y": 1, "z": 7}, 2 + 3))

    def test_views_and_constraints_do_not_count(self):
        desk = Desk({"x": 1}, constraints=(RAISE,))
        desk.watch("seen", RAISE)
        desk.begin("one", RAISE)
        self.assertEqual(preview(desk, ["one"])[2], 3)

    def test_errors(self):
        desk = busy_desk()
        for call in (desk.commit_all, lambda names: preview(desk, names)):
            for wrong in [value for value in STRANGE if not isinstance(value, list)] + [("three",), "three", {"three": 1}, {}, 0]:
                self.check_error(UnknownName, "name", wrong, lambda: call(wrong), desk)
            for wrong in NO_NAMES + ["one", "two", "four", "seen", "none", "three"]:
                self.check_error(UnknownName, "name", wrong, lambda: call(["three", wrong, "nothing"]), desk)
                self.check_error(UnknownName, "name", wrong, lambda: call(["five", "three", wrong]), desk)
            self.check_error(UnknownName, "name", "none", lambda: call(["none", "five", "five", 5]), desk)
            self.check_error(UnknownName, "name", "five", lambda: call(["five", "five", "none"]), desk)
        for wrong in STRANGE + [0, "", {}, (), {"x": 1}]:
            self.check_error(InvalidState, "value", wrong, lambda: preview(wrong, 5))


class ConstraintsTest(Case):
    def test_constraints_that_hold(self):
        desk = Desk({"x": 3}, constraints=(NOT_BELOW_ZERO, HOLDS))
        desk.begin("one", LESSEN, arguments={"b": 3})
        self.assertEqual((desk.commit("one"), desk.state()), (("returned", 3), {"x": 0}))

    def test_a_commit_that_would_break_one(self):
        desk = Desk({"x": 3}, constraints=(HOLDS, NOT_BELOW_ZERO))
        desk.begin("one", LESSEN, arguments={"b": 4})
        self.assertEqual(desk.commit("one"), ("broken", 1))
        self.assertEqual((desk.state(), desk.moment, desk.state(1), desk.ended), ({"x": 3}, 1, {"x": 3}, {"one": ("broken", 1)}))
        moment, trace, done = desk.committed("one")
        self.assertEqual((moment, trace.ending, trace.effect, done), (1, ("returned", 3), {"x": -1}, 3))
        self.assertEqual(trace, run(LESSEN, {"x": 3}, arguments={"b": 4}))
        desk.begin("two", LESSEN, arguments={"b": 1})
        self.assertEqual((desk.commit("two"), desk.state()), (("returned", 3), {"x": 2}))

    def test_first_of_several(self):
        desk = Desk({"x": 3, "y": 0}, constraints=(Y_NOT_BELOW_ZERO, HOLDS, NOT_BELOW_ZERO, NOT_BELOW_ZERO))
        for name, program, ending in (
                ("one", (write("x", -1),), ("broken", 2)), ("two", (write("x", -1), write("y", -1)), ("broken", 0)),
                ("three", (write("y", -1),), ("broken", 0)), ("four", (write("x", -1), ("refuse", v(1))), ("refused", 1))):
            desk.begin(name, program)
            self.assertEqual(desk.commit(name), ending)
        self.assertEqual((desk.state(), desk.moment), ({"x": 3, "y": 0}, 4))

    def test_broken_at_the_beginning_and_not_at_the_commit(self):
        desk = Desk({"x": 1}, constraints=(NOT_BELOW_ZERO,))
        desk.begin("one", LESSEN, arguments={"b": 2})
        desk.advance("one", 3)
        desk.begin("two", RAISE)
        desk.commit("two")
        self.assertEqual((desk.commit("one"), desk.state()), (("returned", 2), {"x": 0}))

    def test_what_constraints_write(self):
        desk = Desk({"x": 1}, constraints=((write("x", 9), ("delete", v("y")), ("return", v(5))),))
        desk.begin("one", RAISE)
        self.assertEqual((desk.commit("one"), desk.state()), (("returned", 1), {"x": 2}))

    def test_constraints_that_do_not_end(self):
        until = (read("n", v("n")), let("i", v(0)), ("while", ("less", n("i"), n("n")), (let("i", add(n("i"), v(1))),)))
        desk = Desk({"n": 498}, constraints=(until,))
        desk.begin("one", (write("n", 499),))
        self.assertEqual((desk.commit("one"), desk.state()), (("broken", 0), {"n": 498}))

    def test_how_many(self):
        self.assertEqual(Desk({}, constraints=(HOLDS,) * 10).moment, 0)
        self.check_error(InvalidProgram, "place", (), lambda: Desk({}, constraints=(HOLDS,) * 11))
        self.check_error(InvalidProgram, "place", (), lambda: Desk({}, constraints=(HOLDS,) * 10 + (5,)))

    def test_first_state_breaks_one(self):
        self.check_error(Broken, "index", 1, lambda: Desk({"x": -1}, constraints=(HOLDS, NOT_BELOW_ZERO, NOT_BELOW_ZERO)))
        self.check_error(Broken, "index", 0, lambda: Desk({"x": -1, "y": -1}, constraints=(Y_NOT_BELOW_ZERO, NOT_BELOW_ZERO)))
        self.check_error(Broken, "index", 0, lambda: Desk({}, constraints=(NOT_BELOW_ZERO,)))
        self.check_error(Broken, "index", 0, lambda: Desk({}, constraints=((("return", n("a")),),)))

    def test_errors_of_constraints(self):
        wrong = (let("a", v(1)), ("if", v(1), (), (5,)))
        self.check_error(InvalidProgram, "place", (1, "else", 0), lambda: Desk({"x": -1}, constraints=(NOT_BELOW_ZERO, wrong, 5)))
        self.check_error(InvalidProgram, "place", (), lambda: Desk({}, constraints=(HOLDS, 5, wrong)))
        self.check_error(InvalidState, "value", 5, lambda: Desk(constraints=(wrong,), state=5))


class ViewsTest(Case):
    def test_watch(self):
        desk = Desk({"x": 1, "y": 2})
        self.assertTrue(desk.watch("sum", SUM) is None)
        self.assertEqual(desk.views, {"sum": (("returned", 1), 4)})
        desk.watch(arguments={"b": 5}, program=ADD_ARGUMENT, name="more")
        self.assertEqual(desk.views, {"sum": (("returned", 1), 4), "more": (("returned", 5), 3)})
        self.assertEqual((desk.state(), desk.moment, desk.active, len(desk)), ({"x": 1, "y": 2}, 0, [], 0))

    def test_mended_at_each_moment(self):
        desk = Desk({"x": 1, "y": 2})
        desk.watch("sum", SUM)
        for number, (program, ending, done) in enumerate((
                ((write("x", 5),), ("returned", 5), 7), ((write("q", 5),), ("returned", 5), 7),
                ((write("y", 5),), ("returned", 5), 9), ((write("y", "a"),), ("refused", "kind"), 11),
                ((write("x", 5), ("refuse", v(1))), ("refused", "kind"), 11), ((write("y", 0),), ("returned", 5), 14))):
            desk.begin(NAMES[number], program)
            desk.commit(NAMES[number])
            self.assertEqual(desk.views, {"sum": (ending, done)})

    def test_each_commit_of_several_is_a_moment(self):
        desk = Desk({"x": 1, "y": 2})
        desk.watch("sum", SUM)
        desk.begin("one", (write("x", 5),))
        desk.begin("two", (write("x", 1),))
        desk.commit_all(["one", "two"])
        self.assertEqual(desk.views, {"sum": (("returned", 1), 4 + 3 + 3)})

    def test_broken_commits(self):
        desk = Desk({"x": 1, "y": 2}, constraints=(NOT_BELOW_ZERO,))
        desk.watch("sum", SUM)
        desk.begin("one", (write("x", -5),))
        desk.commit("one")
        self.assertEqual(desk.views, {"sum": (("returned", 1), 4)})

    def test_begun_at_different_moments(self):
        desk = Desk({"x": 1})
        for number in range(4):
            desk.watch(NAMES[number], RAISE)
            desk.begin(NAMES[number], RAISE)
            desk.commit(NAMES[number])
        self.assertEqual(desk.views, {NAMES[number]: (("returned", 5), 3 + 3 * (4 - number)) for number in range(4)})

    def test_ended_and_begun_anew(self):
        desk = Desk({"x": 1})
        desk.watch("seen", RAISE)
        desk.begin("one", RAISE)
        desk.commit("one")
        self.assertEqual(desk.views["seen"], (("returned", 2), 6))
        self.assertTrue(desk.unwatch(name="seen") is None)
        self.assertEqual(desk.views, {})
        desk.watch("seen", TAKE)
        self.assertEqual(desk.views, {"seen": (("returned", "taken"), 4)})

    def test_refused_views(self):
        desk = Desk({})
        desk.watch("seen", RAISE)
        desk.watch("long", ENDLESS)
        self.assertEqual(desk.views, {"seen": (("refused", "kind"), 2), "long": (("refused", "steps"), 1000)})

    def test_ten_views(self):
        desk = Desk({})
        for name in NAMES[:10]:
            desk.watch(name, ())
        self.check_error(LimitExceeded, "count", 11, lambda: desk.watch("more", ()), desk)
        self.check_error(NameTaken, "name", NAMES[3], lambda: desk.watch(NAMES[3], ()), desk)
        desk.unwatch(NAMES[3])
        desk.watch("more", ())
        self.assertEqual((len(desk.views), set(desk.views)), (10, set(NAMES[:3] + NAMES[4:10] + ["more"])))

    def test_errors(self):
        desk = busy_desk()
        for wrong in NO_NAMES:
            self.check_error(InvalidName, "value", wrong, lambda: desk.watch(wrong, 5, arguments=6), desk)
        for wrong in STRANGE + [[], "", 0]:
            self.check_error(InvalidProgram, "place", (), lambda: desk.watch("seen", wrong, arguments=6), desk)
        for wrong in WRONG_ARGUMENTS:
            self.check_error(InvalidArguments, "value", wrong, lambda: desk.watch("seen", SUM, arguments=wrong), desk)
        self.check_error(NameTaken, "name", "seen", lambda: desk.watch("seen", SUM), desk)
        for name in NO_NAMES + ["one", "two", "three", "four", "none"]:
            self.check_error(UnknownName, "name", name, lambda: desk.unwatch(name), desk)

    def test_trace_of_views(self):
        desk = Desk({"x": 1, "y": 2})
        desk.watch("sum", SUM)
        desk.begin("one", (write("y", 7),))
        old = run(SUM, {"x": 1, "y": 2})
        desk.commit("one")
        self.assertEqual(desk.views["sum"][1], 4 + len(mend(SUM, old, {"x": 1, "y": 7}).done))


class AskingTest(Case):
    def test_states(self):
        desk = busy_desk()
        self.assertEqual([desk.state(moment) for moment in (0, 1, 2, None)], [
            {"x": 3, "y": 1}, {"x": 4, "y": 1}, {"x": 4, "y": 1}, {"x": 4, "y": 1}])
        self.assertEqual((desk.state(moment=0), desk.state()), ({"x": 3, "y": 1}, {"x": 4, "y": 1}))
        for wrong in [value for value in NO_MOMENTS if value is not None] + [3, 4, True, False]:
            self.check_error(UnknownMoment, "value", wrong, lambda: desk.state(wrong), desk)
        desk.abort("three")
        desk.tidy()
        for wrong in (0, 1):
            self.check_error(UnknownMoment, "value", wrong, lambda: desk.state(wrong), desk)

    def test_open_and_committed_runs(self):
        desk = busy_desk()
        self.assertEqual((desk.active, desk.ended, desk.moment, len(desk)), (
            ["three", "five"], {"one": ("returned", 3), "two": ("broken", 1)}, 2, 2))
        self.check_open(desk, "three", 0, 2, 2)
        self.check_open(desk, "five", 2, 1, 1)
        self.assertEqual(desk.committed(name="one"), (1, run(RAISE, {"x": 3}), 3))
        self.assertEqual(desk.committed("two")[0], 2)
        self.assertEqual((desk.trace_of(name="five"), desk.begun(name="five"), desk.done_by(name="five")), (
            run(ADD_ARGUMENT, {"x": 4}, arguments={"b": 2}).first(1), 2, 1))

    def test_recorded(self):
        desk = busy_desk()
        self.assertEqual([desk.recorded(name) for name in ("one", "two", "three", "five")], [
            (RAISE, None), (LESSEN, {"b": 9}), (SUM, {}), (ADD_ARGUMENT, {"b": 2})])
        self.assertEqual(desk.recorded(name="one"), (RAISE, None))

    def test_errors(self):
        desk = busy_desk()
        for name in NO_NAMES + ["four", "none", "seen"]:
            for call in (desk.trace_of, desk.begun, desk.done_by, desk.committed, desk.recorded):
                self.check_error(UnknownName, "name", name, lambda: call(name), desk)
        for name in ("one", "two"):
            for call in (desk.trace_of, desk.begun, desk.done_by):
                self.check_error(UnknownName, "name", name, lambda: call(name), desk)
        for name in ("three", "five"):
            self.check_error(UnknownName, "name", name, lambda: desk.committed(name), desk)

    def test_given_and_returned_things_are_copies(self):
        state, arguments = {"x": 3}, {"b": 1}
        desk = Desk(state)
        desk.begin("one", ADD_ARGUMENT, arguments=arguments)
        desk.watch("seen", ADD_ARGUMENT, arguments=arguments)
        state["x"] = arguments["b"] = 50
        desk.state().clear()
        desk.state(0)["x"] = 60
        desk.recorded("one")[1]["b"] = 70
        desk.active.append("two")
        desk.views["seen"] = 1
        desk.ended["seen"] = 1
        self.assertEqual((desk.advance("one", 2), desk.commit("one"), desk.state()), (2, ("returned", 1), {"x": 4}))
        self.assertEqual((desk.active, desk.views, desk.ended), ([], {"seen": (("returned", 1), 5)}, {"one": ("returned", 1)}))
        desk.recorded("one")[1]["b"] = 70
        desk.ended.clear()
        self.assertEqual((desk.recorded("one"), desk.ended), ((ADD_ARGUMENT, {"b": 1}), {"one": ("returned", 1)}))


class TidyTest(Case):
    def test_without_open_runs(self):
        desk = Desk({"x": 1})
        self.assertEqual(desk.tidy(), 0)
        for name in ("one", "two", "three"):
            desk.begin(name, RAISE)
            desk.commit(name)
        self.assertEqual((desk.tidy(), desk.tidy()), (3, 0))
        self.assertEqual((desk.state(3), desk.moment), ({"x": 4}, 3))
        for moment in range(3):
            self.check_error(UnknownMoment, "value", moment, lambda: desk.state(moment), desk)

    def test_with_open_runs(self):
        desk = Desk({"x": 1})
        for number in range(4):
            desk.begin("run" + NAMES[number], RAISE)
            desk.begin(NAMES[number], RAISE)
            desk.commit(NAMES[number])
        self.assertEqual(desk.tidy(), 0)
        desk.refresh("run" + NAMES[0])
        self.assertEqual((desk.tidy(), desk.state(1)), (1, {"x": 2}))
        desk.abort("run" + NAMES[2])
        self.assertEqual(desk.tidy(), 0)
        desk.abort("run" + NAMES[1])
        self.assertEqual((desk.tidy(), desk.state(3)), (2, {"x": 4}))

    def test_dropped_states_are_not_needed(self):
        one, other = busy_desk(), busy_desk()
        for desk in (one, other):
            desk.refresh("three")
            desk.begin("six", RAISE)
        self.assertEqual(one.tidy(), 2)
        for call in (
                lambda desk: desk.advance("three", 1), lambda desk: desk.commit("six"), lambda desk: desk.refresh("five"),
                lambda desk: desk.commit("five"), lambda desk: desk.commit("three"), lambda desk: desk.committed("one"),
                lambda desk: desk.views, lambda desk: desk.ended, lambda desk: desk.recorded("two")):
            self.assertEqual(call(one), call(other))
        self.assertEqual((one.state(), one.state(3)), (other.state(), other.state(3)))
        self.assertFalse(one == other)
        self.assertEqual((one.tidy(), other.tidy()), (3, 5))
        self.assertTrue(one == other)


class TrialTest(Case):
    def change(self, desk):
        desk.advance("three", 1)
        desk.refresh("three")
        desk.commit("five")
        desk.begin("six", RAISE)
        desk.abort("three")
        desk.watch("other", SUM)
        desk.unwatch("seen")
        desk.commit_all(["six"])
        desk.tidy()
        desk.begin("seven", RAISE)

    def test_trial(self):
        desk, copy = busy_desk(), busy_desk()
        with desk.trial() as held:
            self.assertTrue(held is desk)
            self.change(desk)
            self.assertEqual((desk.moment, desk.active, desk.state()), (4, ["seven"], {"x": 7, "y": 1}))
            self.assertFalse(desk == copy)
        self.assertTrue(desk == copy)
        self.assertEqual([desk.state(moment) for moment in range(3)], [copy.state(moment) for moment in range(3)])
        self.change(desk)
        self.change(copy)
        self.assertTrue(desk == copy)

    def test_with_an_error_in_it(self):
        desk, copy = busy_desk(), busy_desk()
        with self.assertRaises(UnknownName) as caught:
            with desk.trial():
                self.change(desk)
                desk.commit("none")
        self.assertEqual(caught.exception.name, "none")
        self.assertTrue(desk == copy)
        with self.assertRaises(ZeroDivisionError):
            with desk.trial() as held:
                self.change(held)
                1 // 0
        self.assertTrue(desk == copy)

    def test_beginning_of_the_statement(self):
        desk, copy = busy_desk(), busy_desk()
        trial = desk.trial()
        self.assertTrue(desk == copy)
        desk.advance("three", 1)
        copy.advance("three", 1)
        with trial:
            self.change(desk)
        self.assertTrue(desk == copy)

    def test_trials_in_trials(self):
        desk, copy = busy_desk(), busy_desk()
        with desk.trial():
            desk.commit("five")
            inner = desk.copy()
            with desk.trial():
                desk.commit("three")
            self.assertTrue(desk == inner)
            with desk.trial():
                desk.abort("three")
        self.assertTrue(desk == copy)

    def test_copies_made_in_a_trial_stay(self):
        desk = busy_desk()
        with desk.trial():
            self.change(desk)
            copy = desk.copy()
        other = busy_desk()
        self.change(other)
        self.assertTrue(copy == other)

    def test_nothing_done(self):
        desk, copy = busy_desk(), busy_desk()
        with desk.trial():
            pass
        self.assertTrue(desk == copy)


class CopyTest(Case):
    def test_copies_are_independent(self):
        desk, other = busy_desk(), busy_desk()
        copy = desk.copy()
        self.assertTrue(copy == desk and copy is not desk and isinstance(copy, Desk))
        TrialTest.change(self, copy)
        self.assertTrue(desk == other and desk != copy)
        copy = desk.copy()
        TrialTest.change(self, desk)
        self.assertTrue(copy == other and desk != copy)

    def test_constraints_and_views_are_copied(self):
        copy = busy_desk().copy()
        copy.begin("six", LESSEN, arguments={"b": 5})
        self.assertEqual(copy.commit("six"), ("broken", 1))
        self.assertEqual(copy.views, busy_desk().views)

    def test_copies_of_dropped_states(self):
        desk = busy_desk()
        desk.abort("three")
        desk.tidy()
        self.assertTrue(desk.copy() == desk)
        self.assertEqual(desk.copy().state(2), {"x": 4, "y": 1})


class EqualityTest(Case):
    def test_equal_desks(self):
        self.assertTrue(busy_desk() == busy_desk() and not busy_desk() != busy_desk())
        self.assertTrue(Desk({"a": 1, "b": 2}) == Desk({"b": 2, "a": 1}, constraints=()))

    def check_unequal(self, change, other_change=lambda desk: None):
        one, other = busy_desk(), busy_desk()
        change(one)
        other_change(other)
        self.assertTrue(one != other and not one == other and not other == one)

    def test_what_makes_them_unequal(self):
        self.check_unequal(lambda desk: desk.advance("three"))
        self.check_unequal(lambda desk: desk.refresh("three"))
        self.check_unequal(lambda desk: desk.refresh("three"), lambda desk: desk.advance("three", 0))
        self.check_unequal(lambda desk: desk.commit("three"))
        self.check_unequal(lambda desk: desk.abort("three"))
        self.check_unequal(lambda desk: desk.abort("three"), lambda desk: desk.abort("five"))
        self.check_unequal(lambda desk: desk.unwatch("seen"))
        self.check_unequal(lambda desk: desk.watch("other", SUM))
        self.check_unequal(lambda desk: desk.begin("six", SUM))
        self.check_unequal(lambda desk: (desk.abort("three"), desk.tidy()), lambda desk: desk.abort("three"))
        self.check_unequal(lambda desk: desk.commit_all(["three", "five"]), lambda desk: desk.commit_all(["five", "three"]))

    def test_open_runs(self):
        begun = lambda *told: lambda desk: [desk.begin(name, program, arguments=given) for name, program, given in told]
        self.check_unequal(begun(("six", SUM, None)), begun(("seven", SUM, None)))
        self.check_unequal(begun(("six", SUM, None)), begun(("six", SUM[:3], None)))
        self.check_unequal(begun(("six", SUM, None)), begun(("six", SUM, {})))
        self.check_unequal(begun(("six", SUM, {"b": 1})), begun(("six", SUM, {"b": 2})))
        self.check_unequal(begun(("six", SUM, {"b": 1})), begun(("six", SUM, {"c": 1})))
        self.check_unequal(begun(("six", SUM, None), ("seven", SUM, None)), begun(("seven", SUM, None), ("six", SUM, None)))
        one, other = busy_desk(), busy_desk()
        one.begin("six", SUM, arguments={"b": 1, "c": 2})
        other.begin("six", SUM, arguments={"c": 2, "b": 1})
        self.assertTrue(one == other)

    def test_moments_traces_and_steps_done(self):
        one, other = Desk({"x": 1, "y": 2}), Desk({"x": 1, "y": 2})
        for desk in (one, other):
            desk.begin("one", RAISE)
            desk.begin("two", (write("z", 2),))
        other.commit("two")
        one.commit("two")
        self.assertTrue(one == other)
        one.refresh("one")
        self.assertFalse(one == other)
        other.refresh("one")
        self.assertTrue(one == other)

    def test_only_steps_done_differ(self):
        one, other = Desk({"x": 1}), Desk({"x": 1})
        for desk, first in ((one, 1), (other, 0)):
            desk.begin("one", RAISE)
            desk.begin("two", RAISE)
            desk.advance("one", first)
            desk.commit("two")
            desk.refresh("one")
            desk.advance("one", 1 - first)
        self.assertEqual((one.trace_of("one"), one.begun("one")), (other.trace_of("one"), other.begun("one")))
        self.assertFalse(one == other)
        one.commit("one")
        other.commit("one")
        self.assertFalse(one == other)

    def test_committed_runs(self):
        one, other = Desk({"x": 1}), Desk({"x": 1})
        for desk, arguments in ((one, None), (other, {})):
            desk.begin("one", RAISE, arguments=arguments)
            desk.commit("one")
        self.assertFalse(one == other)
        one, other = Desk({"x": 1}), Desk({"x": 1})
        for desk, program in ((one, RAISE), (other, RAISE + (let("b", v(1)),))):
            desk.begin("one", program)
            desk.commit("one")
        self.assertFalse(one == other)

    def test_order_of_aborted_names_and_of_views(self):
        one, other = busy_desk(), busy_desk()
        for desk, names in ((one, ["three", "five"]), (other, ["five", "three"])):
            for name in names:
                desk.abort(name)
            for name in names:
                desk.watch(name, SUM)
        self.assertTrue(one == other)

    def test_views(self):
        one, other = Desk({"x": 1}), Desk({"x": 1})
        one.watch("seen", RAISE)
        for desk in (one, other):
            desk.begin("one", RAISE)
            desk.commit("one")
        other.watch("seen", RAISE)
        self.assertFalse(one == other)
        for arguments in (None, {}, {"b": 1}):
            one, other = Desk({"x": 1}), Desk({"x": 1})
            one.watch("seen", RAISE, arguments={"c": 1})
            other.watch("seen", RAISE, arguments=arguments)
            self.assertFalse(one == other)
        one, other = Desk({}), Desk({})
        one.watch("seen", ())
        other.watch("seen", (("try", (), ()),))
        self.assertFalse(one == other)

    def test_states_and_constraints(self):
        self.assertFalse(Desk({"x": 1}) == Desk({"x": 2}))
        self.assertFalse(Desk({"x": 1}) == Desk({"x": 1}, constraints=(HOLDS,)))
        self.assertFalse(Desk({"x": 1}, constraints=(NOT_BELOW_ZERO, HOLDS)) == Desk({"x": 1}, constraints=(
            HOLDS, NOT_BELOW_ZERO)))

    def test_no_desks(self):
        desk = busy_desk()
        for other in STRANGE + [desk.state(), 2, "", ()]:
            self.assertTrue(desk != other)
            self.assertFalse(desk == other)


if __name__ == "__main__":
    unittest.main()
