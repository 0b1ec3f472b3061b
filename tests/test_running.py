import inspect
import random
import sys
import unittest

from mendedruns.errors import InvalidArguments, InvalidProgram, InvalidState
from mendedruns.running import run, steps_of
from tests.building import ENDLESS, FAILING, LARGEST, SUM, Maker, add, let, n, read, steps_program, v, write
from tests.reference import Reference
from tests.strange import STRANGE

WRONG_STATES = STRANGE[1:] + [0, 1, "", (), {"A": 1}, {"a": True}, {"": 1}, {1: 1}, {"a": None}, {"a": [1]}]
WRONG_ARGUMENTS = STRANGE[1:] + [0, 1, "", (), {"A": 1}, {"a": True}, {"a1": 1}, {"": 1}, {"a": None}, {"a" * 13: 1}]
PLUS = let("i", add(n("i"), v(1)))


def known(name, value):
    return (("name", name), value)


def found(key, value):
    return (("key", key), value)


class Case(unittest.TestCase):
    def check_run(self, program, state, arguments=None, ending=("returned", ""), effect=None, steps=None):
        trace = run(program, state, arguments=arguments)
        self.assertEqual(trace.ending, ending)
        self.assertEqual(trace.effect, effect or {})
        if steps is not None:
            self.assertEqual(trace.steps, steps)
            self.assertEqual(list(steps_of(program, state, arguments=arguments)), steps)
        return trace

    def check_outcomes(self, program, state, outcomes, arguments=None):
        steps = run(program, state, arguments=arguments).steps
        self.assertEqual([(place, outcome) for place, inputs, outcome in steps], outcomes)

    def check_result(self, program, value, state=None, arguments=None):
        self.assertEqual(run(program, state or {}, arguments=arguments).ending, ("returned", value))


class ExamplesTest(Case):
    def test_examples(self):
        trace = run(SUM, {"x": 1, "y": 2})
        self.assertEqual((trace.effect, trace.ending, len(trace)), ({"z": 3}, ("returned", 1), 4))
        step = ((2,), ((("name", "a"), 1), (("name", "b"), 2)), ("done", ("z", 3)))
        self.assertEqual(list(steps_of(SUM, {"x": 1, "y": 2}))[2], step)


class StatementsTest(Case):
    def test_nothing(self):
        self.check_run((), {"x": 1}, steps=[])

    def test_let(self):
        self.check_run((let("a", v((1, "b"))), let("a", n("a"))), {}, steps=[
            ((0,), (), ("done", (1, "b"))), ((1,), (known("a", (1, "b")),), ("done", (1, "b")))])

    def test_inputs_are_names_once_in_the_order_of_writing(self):
        expression = ("list", n("c"), add(n("a"), n("c")), n("b"), n("a"))
        self.check_run((let("a", expression),), {}, {"a": 1, "b": 2, "c": 3}, steps=[
            ((0,), (known("c", 3), known("a", 1), known("b", 2)), ("done", (3, 4, 2, 1)))])

    def test_names_without_a_value(self):
        expression = ("list", n("a"), n("b"), n("c"))
        self.check_run((let("a", expression),), {}, {"a": 1}, ("refused", "name"), steps=[
            ((0,), (known("a", 1), known("b", None), known("c", None)), ("refused", "name"))])

    def test_names_in_several_expressions(self):
        program = (("write", ("join", n("k"), n("k")), add(n("b"), ("size", n("k")))),)
        self.check_run(program, {}, {"k": "x", "b": 4}, effect={"xx": 5}, steps=[
            ((0,), (known("k", "x"), known("b", 4)), ("done", ("xx", 5)))])

    def test_read(self):
        self.check_run((read("a", v("x")), ("return", n("a"))), {"x": (1,)}, ending=("returned", (1,)), steps=[
            ((0,), (found("x", (1,)),), ("done", (1,))), ((1,), (known("a", (1,)),), ("done", (1,)))])
        self.check_run((read("a", n("k")),), {"x": 7}, {"k": "x"}, steps=[
            ((0,), (known("k", "x"), found("x", 7)), ("done", 7))])

    def test_read_of_a_key_that_is_not_there(self):
        self.check_run((read("a", v("x")), ("return", n("a"))), {"y": 1}, steps=[
            ((0,), (found("x", ""),), ("done", "")), ((1,), (known("a", ""),), ("done", ""))])

    def test_a_variable_is_called_like_a_key(self):
        self.check_run((read("a", n("x")),), {"x": 5}, {"x": "x"}, steps=[((0,), (known("x", "x"), found("x", 5)), ("done", 5))])
        self.check_run((("scan", "a", n("u"), ()),), {"u": 5}, {"u": "u"}, steps=[
            ((0,), (known("u", "u"), (("prefix", "u"), ("u",))), ("done", ("u",)))])
        self.check_run((("read", "a", n("x")),), {"x": 5}, ending=("refused", "name"))

    def test_read_of_what_is_no_key(self):
        for wrong in (1, 0, "", (), ("x",)):
            self.check_run((read("a", v(wrong)),), {"x": 1}, ending=("refused", "kind"), steps=[
                ((0,), (), ("refused", "kind"))])
        self.check_run((read("a", n("k")),), {}, {"k": 5}, ("refused", "kind"), steps=[
            ((0,), (known("k", 5),), ("refused", "kind"))])

    def test_read_behind_own_writes_and_deletions(self):
        program = (
            write("x", 5), read("a", v("x")), ("delete", v("x")), read("b", v("x")), write("x", 6), read("c", v("x")),
            ("return", ("list", n("a"), n("b"), n("c"))),
        )
        self.check_run(program, {"x": 1}, ending=("returned", (5, "", 6)), effect={"x": 6})
        self.assertEqual([run(program, {"x": 1}).steps[index][1] for index in (1, 3, 5)], [
            (found("x", 5),), (found("x", ""),), (found("x", 6),)])

    def test_write(self):
        self.check_run((write("x", (1, ())), write("y", ""), write("x", "z")), {"x": 1}, effect={"x": "z", "y": ""}, steps=[
            ((0,), (), ("done", ("x", (1, ())))), ((1,), (), ("done", ("y", ""))), ((2,), (), ("done", ("x", "z")))])

    def test_write_under_what_is_no_key(self):
        for wrong in (1, 0, "", (), ("x",)):
            self.check_run((write(wrong, 1),), {}, ending=("refused", "kind"), steps=[((0,), (), ("refused", "kind"))])

    def test_delete(self):
        self.check_run((("delete", v("x")), ("delete", v("y"))), {"x": 1}, effect={"x": None, "y": None}, steps=[
            ((0,), (), ("done", "x")), ((1,), (), ("done", "y"))])
        for wrong in (1, 0, "", (), ("x",)):
            self.check_run((("delete", v(wrong)),), {}, ending=("refused", "kind"), steps=[((0,), (), ("refused", "kind"))])

    def test_effect_is_the_last_change(self):
        self.check_run((write("x", 1), ("delete", v("x"))), {}, effect={"x": None})
        self.check_run((("delete", v("x")), write("x", 1)), {"x": 1}, effect={"x": 1})
        self.check_run((write("x", 1), write("x", 2), write("y", 3)), {"x": 2}, effect={"x": 2, "y": 3})

    def test_if(self):
        program = (("if", n("a"), (let("b", v("t")),), (let("b", v("e")),)), ("return", n("b")))
        for value, word, index, result in ((1, "then", 1, "t"), (-5, "then", 1, "t"), (0, "else", 0, "e")):
            self.check_run(program, {}, {"a": value}, ("returned", result), steps=[
                ((0,), (known("a", value),), ("done", index)), ((0, word, 0), (), ("done", result)),
                ((1,), (known("b", result),), ("done", result))])
        for wrong in ("", "a", "1", (), (1,)):
            self.check_run(program, {}, {"a": wrong}, ("refused", "kind"), steps=[
                ((0,), (known("a", wrong),), ("refused", "kind"))])

    def test_empty_branches(self):
        self.check_outcomes((("if", v(2), (), (("refuse", v(1)),)),), {}, [((0,), ("done", 1))])
        self.check_outcomes((("if", v(0), (("refuse", v(1)),), ()),), {}, [((0,), ("done", 0))])

    def test_each(self):
        program = (let("s", v(0)), ("each", "x", n("l"), (let("s", add(n("s"), n("x"))),)), ("return", ("list", n("s"), n("x"))))
        self.check_run(program, {}, {"l": (5, 7)}, ("returned", (12, 7)), steps=[
            ((0,), (), ("done", 0)), ((1,), (known("l", (5, 7)),), ("done", (5, 7))),
            ((1, "each", 0, 0), (known("s", 0), known("x", 5)), ("done", 5)),
            ((1, "each", 1, 0), (known("s", 5), known("x", 7)), ("done", 12)),
            ((2,), (known("s", 12), known("x", 7)), ("done", (12, 7)))])

    def test_each_of_nothing_and_of_no_list(self):
        program = (("each", "x", n("l"), (let("y", n("x")),)), ("return", n("x")))
        self.check_outcomes(program, {}, [((0,), ("done", ())), ((1,), ("refused", "name"))], {"l": ()})
        self.check_outcomes(program, {}, [((0,), ("done", ())), ((1,), ("done", 3))], {"l": (), "x": 3})
        for wrong in (0, 1, "", "ab"):
            self.check_outcomes(program, {}, [((0,), ("refused", "kind"))], {"l": wrong})

    def test_each_goes_on_when_its_variables_change(self):
        program = (
            ("each", "x", n("l"), (let("l", v(())), let("t", add(n("t"), n("x"))), let("x", v(0)))),
            ("return", ("list", n("t"), n("x"), n("l"))),
        )
        self.check_result(program, (6, 0, ()), arguments={"l": (1, 2, 3), "t": 0})

    def test_scan(self):
        program = (("scan", "k", v("u"), (read("a", n("k")),)), ("return", n("k")))
        state = {"ub": 2, "u": 0, "t": 5, "ua": 1, "v": 6, "ua1": 7, "u1": 8}
        keys = ("u", "u1", "ua", "ua1", "ub")
        inner = [((0, "scan", key, 0), (known("k", key), found(key, state[key])), ("done", state[key])) for key in keys]
        self.check_run(program, state, ending=("returned", "ub"), steps=[
            ((0,), ((("prefix", "u"), keys),), ("done", keys))] + inner + [((1,), (known("k", "ub"),), ("done", "ub"))])

    def test_scan_of_all_and_of_nothing(self):
        for prefix, keys in (("", ("a", "ab", "b")), ("a", ("a", "ab")), ("ab", ("ab",)), ("abc", ()), ("c", ()), ("0", ())):
            self.check_run((("scan", "k", n("p"), ()),), {"b": 1, "ab": 2, "a": 3}, {"p": prefix}, steps=[
                ((0,), (known("p", prefix), (("prefix", prefix), keys)), ("done", keys))])
        self.check_run((("scan", "k", v(""), (write("x", 1),)),), {}, steps=[((0,), ((("prefix", ""), ()),), ("done", ()))])

    def test_scan_of_no_text(self):
        for wrong in (0, 1, (), ("a",)):
            self.check_run((("scan", "k", n("p"), ()),), {"a": 1}, {"p": wrong}, ("refused", "kind"), steps=[
                ((0,), (known("p", wrong),), ("refused", "kind"))])

    def test_scan_behind_own_writes_and_deletions(self):
        program = (
            write("uc", 1), ("delete", v("ua")), write("ub", 2), ("delete", v("uz")), write("q", 3),
            ("scan", "k", v("u"), ()), ("delete", v("uc")), write("ua", 4), ("scan", "k", v("u"), ()),
        )
        steps = run(program, {"ua": 1, "ub": 1, "ud": 1}).steps
        self.assertEqual(steps[5][1], ((("prefix", "u"), ("ub", "uc", "ud")),))
        self.assertEqual(steps[8][1], ((("prefix", "u"), ("ua", "ub", "ud")),))

    def test_scan_over_keys_that_the_block_writes_and_deletes(self):
        block = (("delete", v("ub")), write("ua1", 1), ("delete", n("k")), read("a", n("k")))
        trace = self.check_run((("scan", "k", v("u"), block), ("scan", "k", v("u"), ())), {"ua": 1, "ub": 2}, effect={
            "ub": None, "ua1": 1, "ua": None})
        self.assertEqual([step[0] for step in trace.steps if step[0][1:2] == ("scan",)], [
            (0, "scan", key, index) for key in ("ua", "ub") for index in range(4)])
        self.assertEqual(trace.steps[-1][2], ("done", ("ua1",)))

    def test_scan_in_a_scan_over_what_it_writes(self):
        inner = ("scan", "m", v("u"), (("write", ("join", n("m"), v("x")), n("m")),))
        trace = run((("scan", "k", v("u"), (inner,)),), {"ua": 1, "ub": 2})
        self.assertEqual(sorted(trace.effect), ["uax", "uaxx", "ubx", "ubxx"])

    def test_while(self):
        program = (("while", ("less", n("i"), v(2)), (PLUS,)), ("return", n("i")))
        self.check_run(program, {}, {"i": 0}, ("returned", 2), steps=[
            ((0, "while", 0), (known("i", 0),), ("done", 1)), ((0, "while", 0, 0), (known("i", 0),), ("done", 1)),
            ((0, "while", 1), (known("i", 1),), ("done", 1)), ((0, "while", 1, 0), (known("i", 1),), ("done", 2)),
            ((0, "while", 2), (known("i", 2),), ("done", 0)), ((1,), (known("i", 2),), ("done", 2))])

    def test_while_with_no_turn_and_one(self):
        program = (("while", n("i"), (let("i", v(0)),)),)
        self.check_outcomes(program, {}, [((0, "while", 0), ("done", 0))], {"i": 0})
        self.check_outcomes(program, {}, [
            ((0, "while", 0), ("done", 1)), ((0, "while", 0, 0), ("done", 0)), ((0, "while", 1), ("done", 0))], {"i": -7})

    def test_while_of_no_integer(self):
        program = (("while", n("i"), (let("i", v("a")),)),)
        for wrong in ("", "a", (), (1,)):
            self.check_outcomes(program, {}, [((0, "while", 0), ("refused", "kind"))], {"i": wrong})
        self.check_outcomes(program, {}, [
            ((0, "while", 0), ("done", 1)), ((0, "while", 0, 0), ("done", "a")), ((0, "while", 1), ("refused", "kind"))],
            {"i": 1})

    def test_nested_loops(self):
        program = (("each", "x", v((1, 2)), (
            let("i", v(0)), ("while", ("less", n("i"), n("x")), (PLUS, ("scan", "k", v(""), (("delete", n("k")),)))))),)
        places = [step[0] for step in run(program, {"y": 1}).steps]
        self.assertEqual(places, [
            (0,), (0, "each", 0, 0), (0, "each", 0, 1, "while", 0), (0, "each", 0, 1, "while", 0, 0),
            (0, "each", 0, 1, "while", 0, 1), (0, "each", 0, 1, "while", 0, 1, "scan", "y", 0),
            (0, "each", 0, 1, "while", 1), (0, "each", 1, 0), (0, "each", 1, 1, "while", 0),
            (0, "each", 1, 1, "while", 0, 0), (0, "each", 1, 1, "while", 0, 1), (0, "each", 1, 1, "while", 1),
            (0, "each", 1, 1, "while", 1, 0), (0, "each", 1, 1, "while", 1, 1), (0, "each", 1, 1, "while", 2)])

    def test_return(self):
        self.check_run((("return", v((1,))), write("x", 1)), {}, ending=("returned", (1,)), steps=[((0,), (), ("done", (1,)))])
        self.check_result((("each", "x", v((1, 2)), (("while", v(1), (("try", (("return", n("x")),), ()),)),)),), 1)
        self.check_run((write("x", 1), ("try", (write("y", 2), ("return", v(3))), ())), {}, ending=("returned", 3), effect={
            "x": 1, "y": 2})

    def test_refuse(self):
        for value in (1, "ab", (), (1, ("a",)), "steps"):
            self.check_run((write("x", 1), ("refuse", v(value)), write("y", 1)), {}, ending=("refused", value), steps=[
                ((0,), (), ("done", ("x", 1))), ((1,), (), ("refused", value))])


class ProceduresTest(Case):
    def test_call(self):
        program = (
            ("define", "f", ("a", "b"), (let("c", add(n("a"), n("b"))), ("return", n("c")))),
            ("call", "x", "f", (n("y"), ("size", v("abc")))), ("return", n("x")),
        )
        self.check_run(program, {}, {"y": 4}, ("returned", 7), steps=[
            ((1,), (known("y", 4),), ("done", (4, 3))),
            ((1, "call", 0), (known("a", 4), known("b", 3)), ("done", 7)), ((1, "call", 1), (known("c", 7),), ("done", 7)),
            ((2,), (known("x", 7),), ("done", 7))])

    def test_without_return_parameters_and_statements(self):
        program = (("define", "f", (), ()), let("x", v(1)), ("call", "x", "f", ()), ("return", n("x")))
        self.check_run(program, {}, steps=[
            ((1,), (), ("done", 1)), ((2,), (), ("done", ())), ((3,), (known("x", ""),), ("done", ""))])

    def test_variables_of_its_own(self):
        program = (
            ("define", "f", ("a",), (let("b", v(9)), let("a", v(8)), ("return", n("c")))),
            let("a", v(1)), let("c", v(3)), ("try", (("call", "x", "f", (n("a"),)),), ()), ("return", ("list", n("a"), n("c"))),
        )
        self.check_result(program, (1, 3))
        self.assertEqual(run(program, {}).steps[5], ((3, "try", 0, "call", 2), (known("c", None),), ("refused", "name")))

    def test_arguments_are_no_variables_of_procedures(self):
        program = (("define", "f", (), (("return", n("a")),)), ("call", "x", "f", ()))
        self.assertEqual(run(program, {}, arguments={"a": 1}).ending, ("refused", "name"))

    def test_own_variables_are_not_seen_outside(self):
        program = (("define", "f", (), (let("b", v(9)),)), ("call", "x", "f", ()), ("return", n("b")))
        self.assertEqual(run(program, {}).ending, ("refused", "name"))

    def test_each_call_has_new_variables(self):
        block = (("try", (let("s", n("s")),), (let("s", n("a")),)), ("return", n("s")))
        program = (
            ("define", "f", ("a",), block), ("call", "x", "f", (v(1),)), ("call", "y", "f", (v(2),)),
            ("return", ("list", n("x"), n("y"))),
        )
        self.check_result(program, (1, 2))

    def test_store_is_shared(self):
        program = (("define", "f", ("k",), (("write", n("k"), v(5)), ("delete", v("y")))), ("call", "a", "f", (v("x"),)),
                   read("b", v("x")), read("c", v("y")), ("return", ("list", n("b"), n("c"))))
        self.check_run(program, {"y": 1}, ending=("returned", (5, "")), effect={"x": 5, "y": None})

    def test_return_ends_only_the_procedure(self):
        block = (("each", "x", v((1, 2, 3)), (("while", v(1), (("if", ("less", v(1), n("x")), (("return", n("x")),), ()),
                                                               let("y", v(0)), ("return", n("y")))),)),)
        program = (("define", "f", (), block), ("call", "a", "f", ()), ("return", ("list", n("a"))))
        self.check_result(program, (0,))

    def test_procedures_that_call_procedures(self):
        program = (
            ("define", "f", ("a",), (("return", add(n("a"), v(1))),)),
            ("define", "g", ("a",), (("call", "b", "f", (n("a"),)), ("call", "b", "f", (n("b"),)), ("return", n("b")))),
            ("call", "a", "g", (v(5),)), ("return", n("a")),
        )
        self.check_result(program, 7)
        self.assertEqual([step[0] for step in run(program, {}).steps], [
            (2,), (2, "call", 0), (2, "call", 0, "call", 0), (2, "call", 1), (2, "call", 1, "call", 0), (2, "call", 2), (3,)])

    def test_called_in_loops(self):
        program = (
            ("define", "f", ("k",), (read("v", n("k")), ("return", n("v")))), let("s", v(0)),
            ("scan", "k", v("u"), (("call", "v", "f", (n("k"),)), let("s", add(n("s"), n("v"))))), ("return", n("s")),
        )
        self.check_result(program, 7, {"ua": 3, "ub": 4})
        self.assertEqual([step[0] for step in run(program, {"ua": 3}).steps][2:5], [
            (2, "scan", "ua", 0), (2, "scan", "ua", 0, "call", 0), (2, "scan", "ua", 0, "call", 1)])

    def test_expressions_of_a_call(self):
        program = (("define", "f", ("a", "b"), ()), ("call", "x", "f", (n("c"), add(n("d"), n("c")))))
        self.check_run(program, {}, {"c": 1}, ("refused", "name"), steps=[
            ((1,), (known("c", 1), known("d", None)), ("refused", "name"))])

    def test_refused_in_a_procedure(self):
        program = (("define", "f", (), (write("x", 1), ("refuse", v("no")))), ("call", "a", "f", ()), write("y", 1))
        self.check_run(program, {}, ending=("refused", "no"))

    def test_name_of_the_result_is_used_as_parameter_and_procedure(self):
        program = (("define", "a", ("a",), (("return", add(n("a"), v(1))),)), let("a", v(1)), ("call", "a", "a", (n("a"),)),
                   ("return", n("a")))
        self.check_result(program, 2)


class TryTest(Case):
    def test_not_refused(self):
        program = (("try", (write("x", 1), let("a", v(2))), (let("a", v(3)),)), ("return", n("a")))
        self.check_run(program, {}, ending=("returned", 2), effect={"x": 1}, steps=[
            ((0, "try", 0), (), ("done", ("x", 1))), ((0, "try", 1), (), ("done", 2)), ((1,), (known("a", 2),), ("done", 2))])

    def test_writes_and_deletions_are_given_up(self):
        program = (
            write("x", 1), ("delete", v("y")),
            ("try", (write("x", 2), write("y", 2), ("delete", v("z")), write("q", 2), ("refuse", v(1))),
             (read("a", v("x")), read("b", v("y")), read("c", v("z")), ("scan", "k", v(""), ()))),
            ("return", ("list", n("a"), n("b"), n("c"))),
        )
        trace = self.check_run(program, {"y": 5, "z": 6}, ending=("returned", (1, "", 6)), effect={"x": 1, "y": None})
        self.assertEqual(trace.step((2, "other", 3))[2], ("done", ("x", "z")))
        self.assertEqual(trace.touched, ["q", "x", "y", "z"])

    def test_variables_are_given_up(self):
        program = (
            let("a", v(1)),
            ("try", (let("a", v(2)), let("b", v(2)), ("each", "c", v((7,)), ()), ("refuse", v(1))),
             (let("d", n("a")), ("try", (let("e", n("b")),), (let("e", v("none")),)), ("try", (let("e", n("c")),), ()))),
            ("return", ("list", n("a"), n("d"), n("e"))),
        )
        self.check_result(program, (1, 1, "none"))

    def test_other_block_refuses_outwards(self):
        program = (("try", (("try", (("refuse", v(1)),), (write("x", 1), ("refuse", v(2)))),), (write("y", 1),)),)
        self.check_run(program, {}, effect={"y": 1})
        self.check_run((("try", (("refuse", v(1)),), (write("x", 1), ("refuse", v(2)))), write("y", 1)), {}, ending=(
            "refused", 2))

    def test_innermost_first_block(self):
        inner = ("try", (write("x", 1), ("refuse", v(1))), (write("y", 1),))
        self.check_run((("try", (write("z", 1), inner), (write("q", 1),)),), {}, effect={"z": 1, "y": 1})

    def test_inner_try_is_given_up_by_the_outer_one(self):
        inner = ("try", (write("x", 1),), ())
        self.check_run((("try", (inner, ("refuse", v(1))), (write("q", 1),)),), {}, effect={"q": 1})

    def test_failed_expressions_and_kinds_are_refusals(self):
        for failing in list(FAILING.values()):
            self.check_result((("try", (let("a", failing),), (let("a", v("no")),)), ("return", n("a"))), "no")
        for wrong in (("delete", v(1)), ("if", v("a"), (), ()), ("while", v(()), ()), ("each", "x", v(1), ())):
            self.check_result((let("a", v(0)), ("try", (let("a", v(1)), wrong), ()), ("return", n("a"))), 0)

    def test_refused_in_a_procedure_within_a_try(self):
        program = (
            ("define", "f", ("a",), (write("x", 1), let("b", v(5)), ("refuse", n("a")))), let("b", v(1)),
            ("try", (let("b", v(2)), ("call", "c", "f", (v("no"),))), (let("d", n("b")),)), ("return", ("list", n("b"), n("d"))),
        )
        self.check_run(program, {}, ending=("returned", (1, 1)))

    def test_try_in_a_procedure(self):
        program = (
            ("define", "f", ("a",), (("try", (let("a", v(9)), write("x", 1), ("refuse", v(1))), ()), ("return", n("a")))),
            let("a", v(1)), ("call", "b", "f", (v(2),)), ("return", ("list", n("a"), n("b"))),
        )
        self.check_run(program, {}, ending=("returned", (1, 2)))

    def test_try_in_loops(self):
        program = (("each", "x", v((1, 0, 2)), (("try", (write("y", 0), ("write", v("x"), ("divide", v(4), n("x")))),
                                                 (("write", v("z"), n("x")),)),)),)
        self.check_run(program, {}, effect={"y": 0, "x": 2, "z": 0})

    def test_return_in_a_try_ends_the_run(self):
        self.check_run((("try", (write("x", 1), ("return", v(1))), (write("y", 1),)), write("z", 1)), {}, effect={
            "x": 1}, ending=("returned", 1))


class ReasonsTest(Case):
    def test_each_expression_of_each_statement(self):
        for reason, failing in FAILING.items():
            one = ("define", "f", ("a", "b", "c"), ())
            statements = [
                let("a", failing), read("a", failing), ("write", failing, v(1)), ("write", v("x"), failing), ("delete", failing),
                ("if", failing, (), ()), ("each", "a", failing, ()), ("scan", "a", failing, ()), ("while", failing, ()),
                ("call", "a", "f", (v(1), v(2), failing)), ("call", "a", "f", (failing, v(1), v(2))), ("refuse", failing),
                ("return", failing),
            ]
            for statement in statements:
                trace = run((one, statement), {})
                self.assertEqual((trace.ending, trace.effect, len(trace)), (("refused", reason), {}, 1))
                self.assertEqual(trace.steps[0][2], ("refused", reason))

    def test_first_of_several(self):
        for reason, one in FAILING.items():
            for other in FAILING.values():
                for statement in (("write", one, other), ("call", "a", "f", (one, other))):
                    self.assertEqual(run((("define", "f", ("a", "b"), ()), statement), {}).ending, ("refused", reason))

    def test_expressions_are_ahead_of_kinds(self):
        for reason, failing in FAILING.items():
            self.assertEqual(run((("write", v(1), failing),), {}).ending, ("refused", reason))
            self.assertEqual(run((("write", failing, v(1)),), {}).ending, ("refused", reason))
        self.assertEqual(run((("write", v(1), v(1)),), {}).ending, ("refused", "kind"))

    def test_inputs_of_failed_reads_and_scans(self):
        for word in ("read", "scan"):
            statement = (word, "a", ("join", n("b"), n("c"))) + (((),) if word == "scan" else ())
            self.assertEqual(run((statement,), {}, arguments={"b": "x"}).steps, [
                ((0,), (known("b", "x"), known("c", None)), ("refused", "name"))])


class ThousandStepsTest(Case):
    def test_exactly_a_thousand(self):
        for count in (999, 1000):
            trace = run(steps_program(count), {})
            self.assertEqual((len(trace), trace.ending[0]), (count, "returned"))
        trace = run(steps_program(1000), {})
        self.assertEqual(trace.ending, ("returned", ""))
        trace = run(steps_program(999), {})
        self.assertEqual(trace.effect, {"k": 498})

    def test_one_more(self):
        for count in (1001, 1002, 1003, 2000):
            trace = run(steps_program(count), {})
            self.assertEqual((len(trace), trace.ending, trace.effect), (1000, ("refused", "steps"), {}))
            self.assertEqual(trace.steps, run(ENDLESS[:1] + (steps_program(count)[1],), {}).steps)
            self.assertEqual(list(steps_of(steps_program(count), {})), trace.steps)

    def test_no_end(self):
        trace = run(ENDLESS, {})
        self.assertEqual((len(trace), trace.ending, trace.effect), (1000, ("refused", "steps"), {}))
        self.assertEqual(trace.touched, ["k"])

    def test_within_a_try(self):
        for count in (1001, 1002):
            program = (("try", (("try", steps_program(count), (write("x", 1),)),), (write("y", 1),)), write("z", 1))
            trace = run(program, {})
            self.assertEqual((len(trace), trace.ending, trace.effect), (1000, ("refused", "steps"), {}))
        program = (("try", steps_program(1000), (write("x", 1),)),)
        self.assertEqual((run(program, {}).ending, len(run(program, {}))), (("returned", ""), 1000))

    def test_behind_a_refused_try(self):
        program = (("try", steps_program(999) + (("refuse", v(1)),), ()),)
        self.check_run(program, {})
        self.assertEqual(len(run(program, {})), 1000)
        self.check_run(program + (let("a", v(1)),), {}, ending=("refused", "steps"))
        self.check_run((("try", steps_program(999) + (("refuse", v(1)),), (let("a", v(1)),)),), {}, ending=("refused", "steps"))

    def test_the_thousandth_step_refuses_or_returns(self):
        self.check_run(steps_program(999) + (("refuse", v(1)), write("x", 1)), {}, ending=("refused", 1))
        self.check_run(steps_program(999) + (("return", v(1)), write("x", 1)), {}, ending=("returned", 1), effect={"k": 498})
        self.check_run(steps_program(1000) + (("refuse", v(1)),), {}, ending=("refused", "steps"))
        self.check_run(steps_program(1000) + (("return", v(1)),), {}, ending=("refused", "steps"))

    def test_in_a_procedure(self):
        for count, ending in ((999, ("returned", "")), (1000, ("refused", "steps")), (1001, ("refused", "steps"))):
            program = (("define", "f", (), steps_program(count)), ("try", (("call", "a", "f", ()),), (write("x", 1),)))
            trace = run(program, {})
            self.assertEqual((len(trace), trace.ending), (1000, ending))

    def test_a_try_or_a_definition_is_no_step(self):
        program = steps_program(1000) + (("try", (), ()), ("define", "f", (), (("refuse", v(1)),)))
        self.assertEqual(run(program, {}).ending, ("returned", ""))

    def test_loops_over_much(self):
        state = {"u" + str(number): number for number in range(2000)}
        trace = run((("scan", "k", v("u"), (read("a", n("k")),)),), state)
        self.assertEqual((len(trace), trace.ending), (1000, ("refused", "steps")))
        trace = run((("scan", "k", v("u"), ()), ("return", n("k"))), state)
        self.assertEqual((len(trace), trace.ending), (2, ("returned", "u999")))

    def test_large_states(self):
        state = {"u" + str(number): number for number in range(20000)}
        program = (let("i", v(0)), ("while", ("less", n("i"), v(300)), (("scan", "k", v("u1999"), ()), PLUS)))
        self.assertEqual(run(program, state).step((1, "while", 7, 0))[2][1][:3], ("u1999", "u19990", "u19991"))


class DeepestTest(Case):
    def test_chains_of_calls(self):
        made = [("define", "fa", (), (("return", v(1)),))]
        names = ["f" + chr(97 + number // 26) + chr(97 + number % 26) for number in range(48)]
        for before, name in zip(["fa"] + names, names):
            made.append(("define", name, (), (("call", "x", before, ()),)))
        made.append(("call", "x", names[-1], ()))
        trace = run(tuple(made[:100]), {})
        self.assertEqual(trace.ending, ("returned", ""))
        self.assertEqual(max(len(step[0]) for step in trace.steps), 2 * 48 + 3 - 2 + 2)

    def test_blocks_in_chains_of_calls(self):
        names = ["f" + chr(97 + number) for number in range(16)]
        made = [("define", names[0], (), ())]
        for before, name in zip(names, names[1:]):
            block = (("call", "x", before, ()),)
            for word in ("try", "if", "try", "each"):
                heads = {"try": ("try",), "if": ("if", v(1)), "each": ("each", "y", v((1,)))}
                block = (heads[word] + (block,) + (((),) if word != "each" else ()),)
            made.append(("define", name, (), block))
        made.append(("call", "x", names[-1], ()))
        limit = sys.getrecursionlimit()
        sys.setrecursionlimit(600)
        try:
            trace = run(tuple(made), {})
        finally:
            sys.setrecursionlimit(limit)
        self.assertEqual((trace.ending, len(trace)), (("returned", ""), 1 + 15 * 3))


class ArgumentsTest(Case):
    def test_none_and_empty(self):
        for arguments in (None, {}):
            self.check_run((("return", n("a")),), {"a": 1}, arguments, ("refused", "name"))
            self.check_run((("return", v(1)),), {}, arguments, ("returned", 1))
        self.assertEqual(run((("return", v(1)),), {}).ending, ("returned", 1))

    def test_names(self):
        self.check_result((let("a", add(n("a"), n("b"))), ("return", n("a"))), 3, arguments={"b": 1, "a": 2, "c": 9})
        self.check_result((("return", n("abcdefghijkl")),), (1, "x"), arguments={"abcdefghijkl": (1, "x")})

    def test_largest_values(self):
        self.check_run((read("a", v("x")), ("write", v("y"), add(n("a"), v(0)))), {"x": LARGEST}, effect={"y": LARGEST})
        self.check_run((read("a", v("x")), ("write", v("y"), add(n("a"), v(1)))), {"x": LARGEST}, ending=("refused", "size"))

    def test_nothing_is_changed(self):
        state = {"y": 2, "x": (1,)}
        arguments = {"b": 1, "a": 2}
        program = (write("x", 1), ("delete", v("y")), let("a", v(9)), write("z", 1), ("scan", "b", v(""), ()))
        run(program, state, arguments=arguments)
        list(steps_of(program, state, arguments=arguments))
        self.assertEqual((list(state.items()), list(arguments.items())), ([("y", 2), ("x", (1,))], [("b", 1), ("a", 2)]))

    def test_order_of_the_keys_means_nothing(self):
        program = (("scan", "k", v(""), (read("a", n("k")),)),)
        self.assertEqual(run(program, {"a": 1, "b": 2}), run(program, {"b": 2, "a": 1}))

    def test_later_changes_change_nothing(self):
        state, arguments = {"x": 1}, {"a": 2}
        program = (read("b", v("x")), ("return", ("list", n("a"), n("b"))))
        trace = run(program, state, arguments=arguments)
        state["x"] = arguments["a"] = 7
        self.assertEqual(trace.ending, ("returned", (2, 1)))
        self.assertEqual(trace, run(program, {"x": 1}, arguments={"a": 2}))

    def test_by_name(self):
        self.assertEqual(run(program=SUM, state={"x": 1, "y": 2}, arguments=None), run(SUM, {"x": 1, "y": 2}))
        self.assertEqual(list(steps_of(state={"x": 1, "y": 2}, program=SUM)), run(SUM, {"x": 1, "y": 2}).steps)
        for call in (run, steps_of):
            self.assertRaises(TypeError, call, SUM, {}, {})


class ErrorsTest(Case):
    def check_error(self, error, field, value, *given, **named):
        for call in (run, lambda *told, **more: list(steps_of(*told, **more))):
            with self.assertRaises(error) as caught:
                call(*given, **named)
            self.assertTrue(getattr(caught.exception, field) is value)

    def test_program(self):
        with self.assertRaises(InvalidProgram) as caught:
            run((("if", v(1), (), (("stop",),)),), {})
        self.assertEqual(caught.exception.place, (0, "else", 0))
        for wrong in STRANGE + [[], "", 0]:
            self.check_error(InvalidProgram, "place", (), wrong, {})

    def test_state(self):
        for wrong in WRONG_STATES + [None]:
            self.check_error(InvalidState, "value", wrong, SUM, wrong)

    def test_arguments(self):
        for wrong in WRONG_ARGUMENTS:
            self.check_error(InvalidArguments, "value", wrong, SUM, {}, arguments=wrong)

    def test_order(self):
        self.check_error(InvalidProgram, "place", (), 5, 6, arguments=7)
        self.check_error(InvalidProgram, "place", (), 5, {}, arguments=7)
        self.check_error(InvalidProgram, "place", (), arguments=7, state=6, program=5)
        self.check_error(InvalidState, "value", 6, SUM, 6, arguments=7)
        self.check_error(InvalidState, "value", 6, arguments=7, state=6, program=SUM)


class StepsOfTest(Case):
    def test_generator_function(self):
        self.assertTrue(inspect.isgeneratorfunction(steps_of))

    def test_state_is_read_when_the_first_step_is_asked_for(self):
        state, arguments = {"x": 1}, {"a": 1}
        steps = steps_of((read("b", v("x")), let("c", n("a"))), state, arguments=arguments)
        state["x"] = arguments["a"] = 5
        self.assertEqual(next(steps), ((0,), (found("x", 5),), ("done", 5)))
        state["x"] = arguments["a"] = 6
        self.assertEqual(list(steps), [((1,), (known("a", 5),), ("done", 5))])

    def test_errors_are_raised_when_the_first_step_is_asked_for(self):
        for call, error in ((lambda: steps_of(5, 6), InvalidProgram), (lambda: steps_of((), 6), InvalidState),
                            (lambda: steps_of((), {}, arguments=7), InvalidArguments)):
            steps = call()
            self.assertRaises(error, next, steps)


class RandomTest(Case):
    def test_like_the_reference(self):
        maker = Maker(random.Random(11))
        for turn in range(600):
            program, state, arguments = maker.program(maker.random.randrange(1, 35)), maker.state(), maker.arguments()
            trace, wanted = run(program, state, arguments=arguments), Reference(program, state, arguments)
            self.assertEqual(trace.steps, wanted.steps)
            self.assertEqual((trace.ending, trace.effect), (wanted.ending, wanted.effect))
            self.assertEqual(trace.touched, sorted(wanted.touched))


if __name__ == "__main__":
    unittest.main()
