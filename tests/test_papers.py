import random
import unittest

from mendedruns.errors import InvalidArguments, InvalidProgram, InvalidState, InvalidTrace
from mendedruns.mending import mend
from mendedruns.papers import first_wrong, paper
from mendedruns.running import run
from mendedruns.values import are_equal
from tests.building import RAISE_ALL, SUM, Maker, add, let, n, read, steps_program, v, write
from tests.reference import Reference
from tests.strange import STRANGE
from tests.test_mending import wanted_marks
from tests.test_running import WRONG_ARGUMENTS, WRONG_STATES

PARTS = ["place", "inputs", "sources", "outcome", "mark"]
TRY_AND_SCAN = (
    write("ub", 1), let("a", v(1)),
    ("try", (write("ua", 2), let("a", v(3)), ("delete", v("ub")), let("b", v(4)), ("refuse", v(5))),
     (("scan", "k", v("u"), (read("c", n("k")),)), let("d", n("a")), read("e", v("ua")))),
    ("try", (let("f", n("b")),), ()),
)


def sources_of(program, state, arguments=None):
    """Return the dict from places to the sources in the paper on mending nothing."""
    lines = paper(program, run(program, {}).first(0), state, arguments=arguments)
    return {line[0]: line[2] for line in lines}


class ExampleTest(unittest.TestCase):
    def test_example(self):
        old = run(SUM, {"x": 1, "y": 2})
        lines = paper(SUM, old, {"x": 5, "y": 2})
        self.assertEqual(lines[2], ((2,), ((("name", "a"), 5), (("name", "b"), 2)), ((0,), (1,)), ("done", ("z", 7)), (
            "done", 0)))
        self.assertEqual(first_wrong(SUM, old, {"x": 5, "y": 2}, lines[:3]), (3, "end"))
        self.assertEqual([line[4] for line in lines], [("done", 0), "kept", ("done", 0), ("done", 0)])


class SourcesTest(unittest.TestCase):
    def test_arguments_steps_and_nothing(self):
        program = (let("c", add(n("a"), n("b"))), let("a", n("c")), let("d", ("list", n("a"), n("c"), n("x"), n("b"))))
        self.assertEqual(sources_of(program, {}, {"a": 1, "b": 2}), {
            (0,): ("argument", "argument"), (1,): ((0,),), (2,): ((1,), (0,), None, "argument")})

    def test_the_last_step_counts(self):
        program = (let("a", v(1)), let("a", v(1)), read("a", v("x")), ("return", n("a")))
        self.assertEqual(sources_of(program, {})[(3,)], ((2,),))

    def test_a_variable_under_its_own_name(self):
        program = (let("a", v(1)), let("a", n("a")), let("a", n("a")))
        self.assertEqual(sources_of(program, {}), {(0,): (), (1,): ((0,),), (2,): ((1,),)})

    def test_keys(self):
        program = (
            read("a", v("x")), write("x", 1), read("a", v("x")), ("delete", v("x")), read("a", v("x")), read("a", v("y")),
            ("delete", v("y")), read("a", v("y")),
        )
        sources = sources_of(program, {"x": 1})
        self.assertEqual([sources[(index,)] for index in (0, 2, 4, 5, 7)], [("store",), ((1,),), ((3,),), ("store",), ((6,),)])

    def test_name_and_key(self):
        program = (let("k", v("x")), read("a", n("k")))
        self.assertEqual(sources_of(program, {})[(1,)], ((0,), "store"))

    def test_prefixes(self):
        program = (
            write("ub", 1), write("ud", 1), ("delete", v("ua")), let("p", v("u")), ("scan", "k", n("p"), ()),
            ("scan", "k", v("none"), ()), write("ub", 2), ("scan", "k", v("ub"), ()),
        )
        sources = sources_of(program, {"ua": 1, "ub": 1, "uc": 1, "x": 1})
        self.assertEqual(sources[(4,)], ((3,), ((0,), "store", (1,))))
        self.assertEqual((sources[(5,)], sources[(7,)]), (((),), (((6,),),)))

    def test_loops(self):
        program = (
            ("each", "x", v((1, 2)), (let("y", n("x")), let("x", v(5)), let("z", n("x")))), let("q", n("x")),
            ("scan", "k", v(""), (read("a", n("k")),)), let("q", n("k")), ("each", "x", v(()), ()), let("q", n("x")),
        )
        sources = sources_of(program, {"x": 1})
        self.assertEqual((sources[(0, "each", 0, 0)], sources[(0, "each", 1, 0)]), (((0,),), ((0,),)))
        self.assertEqual((sources[(0, "each", 0, 2)], sources[(1,)]), (((0, "each", 0, 1),), ((0, "each", 1, 1),)))
        self.assertEqual((sources[(2, "scan", "x", 0)], sources[(3,)]), (((2,), "store"), ((2,),)))
        self.assertEqual(sources[(5,)], ((0, "each", 1, 1),))

    def test_while(self):
        program = (let("i", v(2)), ("while", n("i"), (let("i", ("subtract", n("i"), v(1))),)), ("return", n("i")))
        self.assertEqual(sources_of(program, {}), {
            (0,): (), (1, "while", 0): ((0,),), (1, "while", 0, 0): ((0,),), (1, "while", 1): ((1, "while", 0, 0),),
            (1, "while", 1, 0): ((1, "while", 0, 0),), (1, "while", 2): ((1, "while", 1, 0),), (2,): ((1, "while", 1, 0),)})

    def test_procedures(self):
        program = (
            ("define", "f", ("a",), (let("b", n("a")), write("x", 1), ("if", n("a"), (("return", n("b")),), ()))),
            let("a", v(1)), ("call", "x", "f", (n("a"),)), let("y", n("x")), ("call", "x", "f", (v(0),)), let("y", n("x")),
            let("y", n("a")), read("z", v("x")),
        )
        sources = sources_of(program, {})
        self.assertEqual(sources[(2,)], ((1,),))
        self.assertEqual((sources[(2, "call", 0)], sources[(2, "call", 2)]), (((2,),), ((2,),)))
        self.assertEqual(sources[(2, "call", 2, "then", 0)], ((2, "call", 0),))
        self.assertEqual((sources[(3,)], sources[(5,)]), (((2, "call", 2, "then", 0),), ((4,),)))
        self.assertEqual((sources[(6,)], sources[(7,)]), (((1,),), ((4, "call", 1),)))

    def test_arguments_are_not_seen_in_procedures(self):
        program = (("define", "f", (), (let("b", n("a")),)), ("call", "x", "f", ()))
        self.assertEqual(sources_of(program, {}, {"a": 1})[(1, "call", 0)], (None,))

    def test_behind_a_given_up_try(self):
        sources = sources_of(TRY_AND_SCAN, {"uc": 1})
        self.assertEqual(sources[(2, "other", 0)], (((0,), "store"),))
        self.assertEqual(sources[(2, "other", 0, "scan", "ub", 0)], ((2, "other", 0), (0,)))
        self.assertEqual((sources[(2, "other", 1)], sources[(2, "other", 2)]), (((1,),), ("store",)))
        self.assertEqual(sources[(3, "try", 0)], (None,))

    def test_behind_a_try_that_was_not_given_up(self):
        program = (let("a", v(1)), ("try", (let("a", v(2)), write("x", 1)), ()), let("b", n("a")), read("c", v("x")))
        sources = sources_of(program, {}, {"a": 0})
        self.assertEqual((sources[(2,)], sources[(3,)]), (((1, "try", 0),), ((1, "try", 1),)))

    def test_arguments_behind_a_given_up_try(self):
        program = (("try", (let("a", v(2)), ("refuse", v(1))), ()), let("b", n("a")))
        self.assertEqual(sources_of(program, {}, {"a": 0})[(1,)], ("argument",))

    def test_a_call_that_is_given_up(self):
        program = (
            ("define", "f", ("a",), (write("x", 1), let("b", v(2)), ("refuse", v(1)))), let("b", v(1)),
            ("try", (("call", "b", "f", (v(1),)),), ()), let("c", n("b")), read("d", v("x")),
        )
        sources = sources_of(program, {})
        self.assertEqual((sources[(3,)], sources[(4,)]), (((1,),), ("store",)))


class LinesTest(unittest.TestCase):
    def test_lines(self):
        old = run(RAISE_ALL, {"ua": 1, "uc": 3})
        self.assertEqual(paper(RAISE_ALL, old, {"ua": 1, "ub": 2}), [
            ((0,), ((("prefix", "u"), ("ua", "ub")),), (("store", "store"),), ("done", ("ua", "ub")), ("done", 0)),
            ((0, "scan", "ua", 0), ((("name", "k"), "ua"), (("key", "ua"), 1)), ((0,), "store"), ("done", 1), "kept"),
            ((0, "scan", "ua", 1), ((("name", "k"), "ua"), (("name", "v"), 1)), ((0,), (0, "scan", "ua", 0)), (
                "done", ("ua", 2)), "kept"),
            ((0, "scan", "ub", 0), ((("name", "k"), "ub"), (("key", "ub"), 2)), ((0,), "store"), ("done", 2), ("done", None)),
            ((0, "scan", "ub", 1), ((("name", "k"), "ub"), (("name", "v"), 2)), ((0,), (0, "scan", "ub", 0)), (
                "done", ("ub", 3)), ("done", None)),
        ])

    def test_no_steps(self):
        self.assertEqual(paper((), run((), {}), {}), [])

    def test_each_list_is_new(self):
        old = run(SUM, {"x": 1, "y": 2})
        paper(SUM, old, {"x": 1, "y": 2}).clear()
        self.assertEqual(len(paper(SUM, old, {"x": 1, "y": 2})), 4)

    def test_places_inputs_outcomes_and_marks(self):
        old = run(TRY_AND_SCAN, {"uc": 1})
        mended = mend(TRY_AND_SCAN, old.first(5), {"uc": 2, "ud": 3})
        lines = paper(TRY_AND_SCAN, old.first(5), {"uc": 2, "ud": 3})
        self.assertEqual([(line[0], line[1], line[3]) for line in lines], mended.trace.steps)
        self.assertEqual([line[4] for line in lines], mended.marks)
        self.assertTrue(first_wrong(TRY_AND_SCAN, old.first(5), {"uc": 2, "ud": 3}, lines) is None)

    def test_like_the_reference(self):
        maker = Maker(random.Random(5))
        for turn in range(250):
            program, state, arguments = maker.program(maker.random.randrange(1, 35)), maker.state(), maker.arguments()
            old = run(program, state, arguments=arguments)
            if turn % 3 == 0:
                old = old.first(maker.random.randrange(len(old) + 1))
            state = maker.changed(state)
            wanted = Reference(program, state, arguments)
            if len(old) < 200 and len(wanted.steps) < 200:
                marks = wanted_marks(old, wanted.steps)
                lines = [(place, inputs, sources, outcome, mark) for (place, inputs, outcome), sources, mark in zip(
                    wanted.steps, wanted.sources, marks)]
                self.assertTrue(are_equal(tuple(paper(program, old, state, arguments=arguments)), tuple(lines)))
                self.assertTrue(first_wrong(program, old, state, lines, arguments=arguments) is None)


class FirstWrongTest(unittest.TestCase):
    program = TRY_AND_SCAN
    old = run(TRY_AND_SCAN, {"uc": 1})
    state = {"uc": 2, "ud": 3}

    def setUp(self):
        self.lines = paper(self.program, self.old, self.state)

    def check(self, lines, wanted):
        self.assertEqual(first_wrong(self.program, self.old, self.state, lines), wanted)

    def test_right_one(self):
        self.check(self.lines, None)
        self.check([tuple(list(line)) for line in self.lines], None)
        self.assertEqual(first_wrong((), run((), {}), {}, []), None)

    def test_one_part_of_a_line_changed(self):
        for index, line in enumerate(self.lines):
            for number, part in enumerate(PARTS):
                for other in STRANGE + ["other", 7, (), [], (7,), line[number - 1], list(line[number]), line[number] + ("x",)
                                        if isinstance(line[number], tuple) else "x"]:
                    if not are_equal(other, line[number]):
                        made = line[:number] + (other,) + line[number + 1:]
                        self.check(self.lines[:index] + [made] + self.lines[index + 1:], (index, part))

    def test_first_wrong_part(self):
        line = self.lines[3]
        for number, part in enumerate(PARTS):
            made = line[:number] + ("wrong",) * (5 - number)
            self.check(self.lines[:3] + [made, "no line"] + self.lines[5:], (3, part))

    def test_lines_left_out(self):
        for count in range(len(self.lines)):
            self.check(self.lines[:count], (count, "end"))
        for index in range(len(self.lines) - 1):
            self.check(self.lines[:index] + self.lines[index + 1:], (index, "place"))

    def test_lines_put_in(self):
        for index in range(len(self.lines)):
            self.check(self.lines[:index] + [self.lines[index]] + self.lines[index:], (
                index + 1, "end" if index + 1 == len(self.lines) else "place"))
        self.check(self.lines + [("a", "b", "c", "d", "e")], (len(self.lines), "end"))
        self.check(self.lines + [5], (len(self.lines), "form"))
        self.check(self.lines + [("a", "b", "c", "d")], (len(self.lines), "form"))
        self.check(self.lines + [self.lines[0], 5], (len(self.lines), "end"))
        self.check(self.lines[:-1] + [5, 5], (len(self.lines) - 1, "form"))

    def test_lines_exchanged(self):
        for index in range(len(self.lines) - 1):
            one, other = self.lines[index:index + 2]
            self.check(self.lines[:index] + [other, one] + self.lines[index + 2:], (index, "place"))

    def test_forms_of_lines(self):
        line = self.lines[2]
        for wrong in STRANGE + [(), line[:4], line + (1,), list(line), 1, "", "abcde", {}, (line,)]:
            self.check(self.lines[:2] + [wrong] + self.lines[3:], (2, "form"))
            self.check([wrong], (0, "form"))

    def test_no_lists(self):
        for wrong in [value for value in STRANGE if not isinstance(value, list)] + [tuple(self.lines), {}, "", 0, 1]:
            self.check(wrong, (0, "form"))
        self.assertEqual(first_wrong((), run((), {}), {}, ()), (0, "form"))

    def test_one_and_true(self):
        program = (("if", v(1), (let("a", v(0)),), ()), let("b", n("a")))
        old = run(program, {}).first(2)
        lines = paper(program, old, {})
        self.assertEqual(lines[2], ((1,), ((("name", "a"), 0),), ((0, "then", 0),), ("done", 0), ("done", None)))
        cases = [
            (0, 3, ("done", True), "outcome"), (2, 0, (True,), "place"), (2, 1, ((("name", "a"), False),), "inputs"),
            (2, 2, ((False, "then", 0),), "sources"), (2, 2, ((0, "then", False),), "sources"),
            (2, 3, ("done", False), "outcome"), (0, 0, (False,), "place"), (0, 3, ("done", 1.0), "outcome"),
        ]
        for index, number, other, part in cases:
            made = lines[index][:number] + (other,) + lines[index][number + 1:]
            self.assertEqual(first_wrong(program, old, {}, lines[:index] + [made] + lines[index + 1:]), (index, part))
        again = paper(program, run(program, {}, arguments=None).first(0), {})
        self.assertEqual(first_wrong(program, old, {}, again), (0, "mark"))

    def test_one_and_true_in_marks(self):
        program = (read("a", v("x")), let("b", ("list", n("c"), n("a"))))
        old = run(program, {"x": 1}, arguments={"c": 1})
        lines = paper(program, old, {"x": 2}, arguments={"c": 1})
        self.assertEqual([line[4] for line in lines], [("done", 0), ("done", 1)])
        for index, mark in ((0, ("done", False)), (1, ("done", True)), (1, ("done", 0)), (1, ("done", None)), (1, "kept")):
            made = lines[:index] + [lines[index][:4] + (mark,)] + lines[index + 1:]
            self.assertEqual(first_wrong(program, old, {"x": 2}, made, arguments={"c": 1}), (index, "mark"))

    def test_papers_on_other_things(self):
        self.assertEqual(first_wrong(self.program, self.old, {"uc": 1}, self.lines)[1], "inputs")
        self.assertEqual(first_wrong(self.program, self.old.first(2), self.state, self.lines), (2, "mark"))

    def test_lines_are_not_changed(self):
        lines = list(self.lines)
        self.check(lines, None)
        self.assertEqual(lines, self.lines)

    def test_thousand_lines(self):
        program = steps_program(1000)
        lines = paper(program, run(program, {}), {})
        self.assertTrue(first_wrong(program, run(program, {}), {}, lines) is None)
        self.assertEqual(first_wrong(program, run(program, {}), {}, lines[:999]), (999, "end"))


class ErrorsTest(unittest.TestCase):
    old = run(SUM, {})

    def check_error(self, error, field, value, *given, **named):
        with self.assertRaises(error) as caught:
            paper(*given, **named)
        self.assertTrue(getattr(caught.exception, field) is value)
        for lines in ([], 5, [5]):
            with self.assertRaises(error) as caught:
                first_wrong(*given, lines, **named)
            self.assertTrue(getattr(caught.exception, field) is value)

    def test_each_argument(self):
        for wrong in STRANGE + [[], "", 0]:
            self.check_error(InvalidProgram, "place", (), wrong, self.old, {})
        for wrong in STRANGE + [0, 1, "", {}, (), [], self.old.steps, mend(SUM, self.old, {})]:
            self.check_error(InvalidTrace, "value", wrong, SUM, wrong, {})
        for wrong in WRONG_STATES + [None]:
            self.check_error(InvalidState, "value", wrong, SUM, self.old, wrong)
        for wrong in WRONG_ARGUMENTS:
            self.check_error(InvalidArguments, "value", wrong, SUM, self.old, {}, arguments=wrong)

    def test_order(self):
        self.check_error(InvalidProgram, "place", (), 5, 6, 7, arguments=8)
        self.check_error(InvalidTrace, "value", 6, SUM, 6, 7, arguments=8)
        self.check_error(InvalidState, "value", 7, SUM, self.old, 7, arguments=8)

    def test_by_name(self):
        lines = paper(state={}, old=self.old, program=SUM, arguments={})
        self.assertTrue(first_wrong(lines=lines, state={}, old=self.old, program=SUM, arguments=None) is None)
        self.assertRaises(TypeError, paper, SUM, self.old, {}, {})
        self.assertRaises(TypeError, first_wrong, SUM, self.old, {}, [], {})


if __name__ == "__main__":
    unittest.main()
