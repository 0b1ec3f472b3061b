import random
import unittest

from mendedruns.errors import InvalidArguments, InvalidProgram, InvalidState, InvalidTrace
from mendedruns.mending import Mended, apply_effect, count_done, mend
from mendedruns.running import Trace, run
from tests.building import ENDLESS, RAISE_ALL, SUM, Maker, add, let, n, read, steps_program, v, write
from tests.reference import Reference
from tests.strange import STRANGE
from tests.test_running import WRONG_ARGUMENTS, WRONG_STATES


def wanted_marks(old, steps):
    """Return the marks of steps, found by looking through the steps of the old trace."""
    marks = []
    for place, inputs, outcome in steps:
        same = [step for step in old.steps if step[0] == place]
        if not same:
            marks.append(("done", None))
            continue
        others = same[0][1]
        unlike = [index for index in range(max(len(inputs), len(others))) if inputs[index:index + 1] != others[index:index + 1]]
        marks.append(("done", unlike[0]) if unlike else "kept")
    return marks


class Case(unittest.TestCase):
    def check_mend(self, program, old, state, kept, done, arguments=None):
        mended = mend(program, old, state, arguments=arguments)
        self.assertEqual(mended.trace, run(program, state, arguments=arguments))
        self.assertEqual((mended.kept, mended.done), (kept, done))
        self.assertEqual(count_done(program, old, state, arguments=arguments), len(done))
        return mended


class ExamplesTest(Case):
    def test_examples(self):
        self.check_mend(SUM, run(SUM, {"x": 1, "y": 2}), {"x": 5, "y": 2}, [(1,)], [(0,), (2,), (3,)])
        self.assertEqual(mend(RAISE_ALL, run(RAISE_ALL, {"ua": 1}), {"ua": 1, "ub": 2}).done, [
            (0,), (0, "scan", "ub", 0), (0, "scan", "ub", 1)])
        trace = run(SUM, {"x": 1, "y": 2})
        self.assertEqual(apply_effect({"x": 1, "y": 2}, trace), {"x": 1, "y": 2, "z": 3})


class MendTest(Case):
    def test_same_state(self):
        old = run(SUM, {"x": 1, "y": 2})
        mended = self.check_mend(SUM, old, {"x": 1, "y": 2}, [(0,), (1,), (2,), (3,)], [])
        self.assertEqual((mended.trace, mended.marks), (old, ["kept"] * 4))

    def test_nothing_that_was_read_has_changed(self):
        self.check_mend(SUM, run(SUM, {"x": 1, "y": 2}), {"x": 1, "y": 2, "z": 9, "q": 1}, [(0,), (1,), (2,), (3,)], [])

    def test_one_value_has_changed(self):
        self.check_mend(SUM, run(SUM, {"x": 1, "y": 2}), {"x": 1, "y": 5}, [(0,), (3,)], [(1,), (2,)])
        mended = mend(SUM, run(SUM, {"x": 1, "y": 2}), {"x": 1, "y": 5})
        self.assertEqual(mended.marks, ["kept", ("done", 0), ("done", 1), "kept"])
        self.assertEqual((mended.trace.effect, mended.trace.ending), ({"z": 6}, ("returned", 1)))

    def test_values_that_come_out_the_same(self):
        program = (read("a", v("x")), let("a", ("less", n("a"), v(5))), ("write", v("y"), n("a")))
        self.check_mend(program, run(program, {"x": 1}), {"x": 2}, [(2,)], [(0,), (1,)])

    def test_a_key_is_there_or_not(self):
        program = (read("a", v("x")), ("return", n("a")))
        self.check_mend(program, run(program, {}), {"x": 1}, [], [(0,), (1,)])
        self.check_mend(program, run(program, {"x": 1}), {}, [], [(0,), (1,)])
        self.check_mend(program, run(program, {"x": ""}), {}, [(0,), (1,)], [])

    def test_text_and_integer(self):
        program = (read("a", v("x")), ("return", n("a")))
        self.check_mend(program, run(program, {"x": 1}), {"x": "1"}, [], [(0,), (1,)])

    def test_what_the_run_wrote_itself(self):
        program = (write("x", 1), read("a", v("x")), ("return", n("a")))
        self.check_mend(program, run(program, {"x": 5}), {"x": 6}, [(0,), (1,), (2,)], [])

    def test_keys_that_come_and_go(self):
        old = run(RAISE_ALL, {"ua": 1, "ub": 2})
        mended = self.check_mend(RAISE_ALL, old, {"ub": 2, "uc": 3}, [(0, "scan", "ub", 0), (0, "scan", "ub", 1)], [
            (0,), (0, "scan", "uc", 0), (0, "scan", "uc", 1)])
        self.assertEqual(mended.marks, [("done", 0), "kept", "kept", ("done", None), ("done", None)])

    def test_a_value_under_a_scanned_key(self):
        old = run(RAISE_ALL, {"ua": 1, "ub": 2})
        mended = self.check_mend(RAISE_ALL, old, {"ua": 1, "ub": 5}, [(0,), (0, "scan", "ua", 0), (0, "scan", "ua", 1)], [
            (0, "scan", "ub", 0), (0, "scan", "ub", 1)])
        self.assertEqual(mended.marks[3:], [("done", 1), ("done", 1)])

    def test_other_arguments(self):
        program = (let("b", add(n("a"), v(1))), let("c", v(1)), ("return", n("c")))
        old = run(program, {}, arguments={"a": 1})
        self.check_mend(program, old, {}, [(0,), (1,), (2,)], [], {"a": 1, "z": 5})
        self.check_mend(program, old, {}, [(1,), (2,)], [(0,)], {"a": 2})
        self.check_mend(program, old, {}, [], [(0,)], None)
        self.check_mend(program, run(program, {}), {}, [], [(0,), (1,), (2,)], {"a": 2})

    def test_beginnings(self):
        whole = run(SUM, {"x": 1, "y": 2})
        for count in range(5):
            old = whole.first(count)
            places = [(0,), (1,), (2,), (3,)]
            mended = self.check_mend(SUM, old, {"x": 1, "y": 2}, places[:count], places[count:])
            self.assertEqual(mended.marks, ["kept"] * count + [("done", None)] * (4 - count))
        self.check_mend(SUM, whole.first(3), {"x": 5, "y": 2}, [(1,)], [(0,), (2,), (3,)])
        self.check_mend((), run((), {}), {"x": 1}, [], [])

    def test_more_and_fewer_turns(self):
        program = (read("i", v("x")), ("while", n("i"), (let("i", ("subtract", n("i"), v(1))), write("y", 1))))
        three, one = run(program, {"x": 3}), run(program, {"x": 1})
        self.check_mend(program, one, {"x": 3}, [(1, "while", 0, 1)], [
            (0,), (1, "while", 0), (1, "while", 0, 0), (1, "while", 1), (1, "while", 1, 0), (1, "while", 1, 1),
            (1, "while", 2), (1, "while", 2, 0), (1, "while", 2, 1), (1, "while", 3)])
        mended = self.check_mend(program, three, {"x": 1}, [(1, "while", 0, 1)], [
            (0,), (1, "while", 0), (1, "while", 0, 0), (1, "while", 1)])
        self.assertEqual(mended.marks, [("done", 0), ("done", 0), ("done", 0), "kept", ("done", 0)])

    def test_turns_of_an_each(self):
        program = (read("l", v("x")), ("each", "i", n("l"), (("write", v("y"), n("i")),)))
        self.check_mend(program, run(program, {"x": (1, 2)}), {"x": (1, 3, 2)}, [(1, "each", 0, 0)], [
            (0,), (1,), (1, "each", 1, 0), (1, "each", 2, 0)])

    def test_other_branch(self):
        program = (read("a", v("x")), ("if", n("a"), (let("b", v(1)),), (let("b", v(2)),)), let("c", n("b")))
        mended = self.check_mend(program, run(program, {"x": 1}), {"x": 0}, [], [(0,), (1,), (1, "else", 0), (2,)])
        self.assertEqual(mended.marks, [("done", 0), ("done", 0), ("done", None), ("done", 0)])
        self.check_mend(program, run(program, {"x": 1}), {"x": 7}, [(1, "then", 0), (2,)], [(0,), (1,)])

    def test_refused_and_returned(self):
        program = (read("a", v("x")), ("write", v("y"), ("divide", v(6), n("a"))), ("return", n("a")))
        mended = self.check_mend(program, run(program, {"x": 0}), {"x": 2}, [], [(0,), (1,), (2,)])
        self.assertEqual((mended.trace.ending, mended.trace.effect), (("returned", 2), {"y": 3}))
        mended = self.check_mend(program, run(program, {"x": 2}), {"x": 0}, [], [(0,), (1,)])
        self.assertEqual((mended.trace.ending, mended.trace.effect), (("refused", "zero"), {}))

    def test_given_up_steps_are_kept(self):
        program = (("try", (write("x", 1), read("a", v("y")), ("refuse", n("a"))), (write("z", 1),)), read("b", v("x")))
        old = run(program, {"y": 1})
        self.check_mend(program, old, {"y": 2}, [(0, "try", 0), (0, "other", 0), (1,)], [(0, "try", 1), (0, "try", 2)])
        self.assertEqual(mend(program, old, {"y": 2}).trace.effect, {"z": 1})

    def test_called_procedures(self):
        program = (
            ("define", "f", ("k",), (read("a", n("k")), ("return", n("a")))),
            ("call", "x", "f", (v("x"),)), ("call", "y", "f", (v("y"),)), ("return", add(n("x"), n("y"))),
        )
        mended = self.check_mend(program, run(program, {"x": 1, "y": 2}), {"x": 1, "y": 3}, [
            (1,), (1, "call", 0), (1, "call", 1), (2,)], [(2, "call", 0), (2, "call", 1), (3,)])
        self.assertEqual(mended.marks[4:], [("done", 1), ("done", 0), ("done", 1)])

    def test_thousand_steps(self):
        program = (read("n", v("x")),) + ENDLESS
        old = run(program, {"x": 1})
        mended = mend(program, old, {"x": 2})
        self.assertEqual((mended.done, len(mended.kept), mended.trace.ending), ([(0,)], 999, ("refused", "steps")))
        self.assertEqual(count_done(steps_program(1000), run(steps_program(1000), {}), {}), 0)
        self.assertEqual(count_done(steps_program(1000), run(steps_program(1000), {}).first(0), {}), 1000)

    def test_more_steps_than_allowed_at_the_new_state(self):
        program = (read("n", v("x")), let("i", v(0)), ("while", ("less", n("i"), n("n")), (let("i", add(n("i"), v(1))),)))
        old = run(program, {"x": 498})
        self.assertEqual((len(old), old.ending), (999, ("returned", "")))
        mended = mend(program, old, {"x": 499})
        self.assertEqual((len(mended.trace), mended.trace.ending), (1000, ("refused", "steps")))
        back = mend(program, mended.trace, {"x": 498})
        self.assertEqual(back.trace, old)


class MarksTest(Case):
    def test_index_of_the_first_unequal_input(self):
        program = tuple(read(name, v(name)) for name in "abc") + (let("d", ("list", n("a"), n("b"), n("c"))),)
        old = run(program, {"a": 1, "b": 1, "c": 1})
        for state, index in (({"a": 2, "b": 1, "c": 2}, 0), ({"a": 1, "b": 2, "c": 2}, 1), ({"a": 1, "b": 1, "c": 2}, 2)):
            self.assertEqual(mend(program, old, state).marks[3], ("done", index))

    def test_other_key(self):
        program = (read("k", v("x")), read("a", n("k")))
        old = run(program, {"x": "y", "y": 1, "z": 1})
        self.assertEqual(mend(program, old, {"x": "z", "y": 1, "z": 1}).marks, [("done", 0), ("done", 0)])

    def test_name_without_a_value(self):
        program = (let("b", n("a")),)
        self.assertEqual(mend(program, run(program, {}, arguments={"a": 1}), {}).marks, [("done", 0)])
        self.assertEqual(mend(program, run(program, {}), {}, arguments={"a": 1}).marks, [("done", 0)])
        self.assertEqual(mend(program, run(program, {}), {}).marks, ["kept"])

    def test_an_input_that_the_old_step_does_not_have(self):
        # The key or prefix is missing in the old step, whose expression failed for the name in front of it.
        for word, more in (("read", ()), ("scan", ((),))):
            program = ((word, "b", ("join", n("a"), v("x"))) + more,)
            old = run(program, {})
            self.assertEqual(mend(program, old, {}, arguments={"a": "x"}).marks, [("done", 0)])
            self.assertEqual(mend(program, run(program, {}, arguments={"a": "x"}), {}).marks, [("done", 0)])

    def test_only_the_number_of_inputs_differs(self):
        program = (read("b", ("list", n("a"))), let("c", n("b")))
        one = run(program, {}, arguments={"a": 1})
        self.assertEqual(mend(program, one, {}, arguments={"a": 1}).marks, ["kept"])
        program = (read("b", n("a")),)
        whole = run(program, {}, arguments={"a": "x"})
        place, inputs, outcome = whole.steps[0]
        for given in (inputs[:1], inputs + ((("key", "y"), 1),), ()):
            old = Trace([(place, given, ("refused", "kind"))], [(None,) * len(given)], [None], None, {})
            self.assertEqual(mend(program, old, {}, arguments={"a": "x"}).marks, [("done", min(len(given), 2))])


class MendedTest(Case):
    old = run(SUM, {"x": 1, "y": 2})

    def test_properties(self):
        for name in ("trace", "marks", "kept", "done"):
            self.assertTrue(isinstance(getattr(Mended, name), property))
        mended = mend(SUM, self.old, {"x": 1, "y": 3})
        self.assertTrue(isinstance(mended, Mended) and isinstance(mended.trace, Trace))

    def test_each_list_is_new(self):
        mended = mend(SUM, self.old, {"x": 1, "y": 3})
        for name in ("marks", "kept", "done"):
            told = list(getattr(mended, name))
            getattr(mended, name).append(1)
            self.assertEqual(getattr(mended, name), told)

    def test_equality(self):
        mended = mend(SUM, self.old, {"x": 1, "y": 3})
        self.assertTrue(mended == mend(SUM, self.old, {"x": 1, "y": 3, "q": 1}))
        self.assertFalse(mended != mend(SUM, self.old, {"x": 1, "y": 3}))
        others = [mend(SUM, self.old, {"x": 1, "y": 2}), mend(SUM, self.old.first(1), {"x": 1, "y": 3}), mended.trace,
                  mend(SUM, mended.trace, {"x": 1, "y": 3}), mend(SUM, self.old, {"x": 1, "y": 4}), None, 1, (mended.trace, mended.marks), mended.marks, "", object()]
        for other in others:
            self.assertFalse(mended == other)
            self.assertTrue(mended != other)

    def test_equal_traces_with_other_marks(self):
        one, other = mend(SUM, self.old, {"x": 1, "y": 2}), mend(SUM, self.old.first(3), {"x": 1, "y": 2})
        self.assertEqual(one.trace, other.trace)
        self.assertFalse(one == other)

    def test_order_of_marks_and_places(self):
        mended = mend(SUM, self.old, {"x": 1, "y": 3})
        places = [step[0] for step in mended.trace.steps]
        self.assertEqual(mended.kept, [place for place, mark in zip(places, mended.marks) if mark == "kept"])
        self.assertEqual(mended.done, [place for place, mark in zip(places, mended.marks) if mark != "kept"])


class ApplyEffectTest(Case):
    def test_writes_and_deletions(self):
        trace = run((write("x", 1), ("delete", v("y")), ("delete", v("none")), write("new", (1,))), {})
        for state in ({"x": 5, "y": 1, "z": 2}, {"z": 2}, {"none": 1, "z": 2, "new": (1,)}):
            given = dict(state)
            self.assertEqual(apply_effect(state, trace), {"x": 1, "new": (1,), "z": 2})
            self.assertEqual(state, given)

    def test_without_an_effect(self):
        state = {"x": 1}
        for trace in (run((write("x", 2), ("refuse", v(1))), {}), run(ENDLESS, {}), run((), {}), run((write("x", 2), write(
                "y", 1)), {}).first(1)):
            after = apply_effect(state, trace)
            self.assertEqual(after, {"x": 1})
            self.assertFalse(after is state)

    def test_by_name(self):
        self.assertEqual(apply_effect(trace=run((write("x", 2),), {}), state={}), {"x": 2})

    def test_errors(self):
        for wrong in WRONG_STATES + [None]:
            for other in (run((), {}), 5):
                with self.assertRaises(InvalidState) as caught:
                    apply_effect(wrong, other)
                self.assertTrue(caught.exception.value is wrong)
        for wrong in STRANGE + [0, 1, "", {}, (), []]:
            with self.assertRaises(InvalidTrace) as caught:
                apply_effect({}, wrong)
            self.assertTrue(caught.exception.value is wrong)


class ErrorsTest(Case):
    old = run(SUM, {})

    def check_error(self, error, field, value, *given, **named):
        for call in (mend, count_done):
            with self.assertRaises(error) as caught:
                call(*given, **named)
            self.assertTrue(getattr(caught.exception, field) is value)

    def test_each_argument(self):
        for wrong in STRANGE + [[], "", 0]:
            self.check_error(InvalidProgram, "place", (), wrong, self.old, {})
        for wrong in STRANGE + [0, 1, "", {}, (), [], (self.old,), [self.old], self.old.steps]:
            self.check_error(InvalidTrace, "value", wrong, SUM, wrong, {})
        for wrong in WRONG_STATES + [None]:
            self.check_error(InvalidState, "value", wrong, SUM, self.old, wrong)
        for wrong in WRONG_ARGUMENTS:
            self.check_error(InvalidArguments, "value", wrong, SUM, self.old, {}, arguments=wrong)

    def test_order(self):
        self.check_error(InvalidProgram, "place", (), 5, 6, 7, arguments=8)
        self.check_error(InvalidTrace, "value", 6, SUM, 6, 7, arguments=8)
        self.check_error(InvalidTrace, "value", 6, arguments=8, state=7, old=6, program=SUM)
        self.check_error(InvalidState, "value", 7, SUM, self.old, 7, arguments=8)

    def test_by_name(self):
        self.assertEqual(mend(state={}, old=self.old, program=SUM, arguments=None), mend(SUM, self.old, {}))
        self.assertEqual(count_done(state={}, old=self.old, program=SUM), 0)

    def test_nothing_is_changed(self):
        state, arguments, told = {"y": 1, "x": 2}, {"b": 1, "a": 2}, repr(self.old)
        mended = mend(SUM, self.old, state, arguments=arguments)
        self.assertEqual((list(state), list(arguments), repr(self.old)), (["y", "x"], ["b", "a"], told))
        state["x"] = 9
        self.assertEqual(mended.trace, run(SUM, {"x": 2, "y": 1}))


class RandomTest(Case):
    def test_mended_traces_are_those_of_the_run(self):
        maker = Maker(random.Random(7))
        for turn in range(500):
            program, state, arguments = maker.program(maker.random.randrange(1, 35)), maker.state(), maker.arguments()
            old = run(program, state, arguments=arguments)
            if turn % 3 == 0:
                old = old.first(maker.random.randrange(len(old) + 1))
            if turn % 4 == 0:
                arguments = maker.arguments()
            state = maker.changed(state)
            mended, wanted = mend(program, old, state, arguments=arguments), Reference(program, state, arguments)
            self.assertEqual(mended.trace.steps, wanted.steps)
            self.assertEqual((mended.trace.ending, mended.trace.effect), (wanted.ending, wanted.effect))
            self.assertEqual(mended.trace.touched, sorted(wanted.touched))
            if len(old) < 200 and len(wanted.steps) < 200:
                self.assertEqual(mended.marks, wanted_marks(old, wanted.steps))


if __name__ == "__main__":
    unittest.main()
