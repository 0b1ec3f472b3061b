import itertools
import random
import unittest

from mendedruns.commuting import are_independent, commute, order_result, serial_result
from mendedruns.errors import InvalidArguments, InvalidCount, InvalidProgram, InvalidState, InvalidTrace
from mendedruns.mending import apply_effect
from mendedruns.running import run
from tests.building import ENDLESS, RAISE_ALL, SUM, Maker, add, let, n, read, v, write
from tests.reference import Reference
from tests.strange import STRANGE
from tests.test_desks import ADD_ARGUMENT, LESSEN, RAISE, TAKE
from tests.test_running import WRONG_ARGUMENTS, WRONG_STATES

# Adds its argument b to what is under the key x, and returns nothing that depends on the state.
BLIND = (read("a", v("x")), ("write", v("x"), add(n("a"), n("b"))))
WRONG_PROGRAM = (let("a", v(1)), ("if", v(1), (), (5,)))


def serial(state, runs):
    """Return the state and the endings behind runs one by one, by the second interpreter."""
    endings = []
    for program, arguments in runs:
        ran = Reference(program, state, arguments)
        state = {key: value for key, value in {**state, **ran.effect}.items() if value is not None}
        endings.append(ran.ending)
    return (state, endings)


def effective_run(maker, state):
    """Return a random program with arguments that has an effect at a state."""
    while True:
        program, arguments = maker.program(maker.random.randrange(3, 20)), maker.arguments()
        if run(program, state, arguments=arguments).effect:
            return (program, arguments)


class SerialResultTest(unittest.TestCase):
    def test_example(self):
        self.assertEqual(serial_result({"x": 1}, (SUM, None)), ({"x": 1}, [("refused", "kind")]))

    def test_runs_one_by_one(self):
        self.assertEqual(serial_result({"x": 1}, (RAISE, None), (RAISE, None)), ({"x": 3}, [("returned", 1), ("returned", 2)]))
        self.assertEqual(serial_result({"x": 1, "y": 2}, (SUM, {}), (BLIND, {"b": 4}), (SUM, None)), (
            {"x": 5, "y": 2, "z": 7}, [("returned", 1), ("returned", ""), ("returned", 5)]))

    def test_no_runs(self):
        self.assertEqual((serial_result({}), serial_result({"x": 1})), (({}, []), ({"x": 1}, [])))

    def test_deletions_and_refusals(self):
        gone = ((("delete", v("x")),), None)
        refused = ((write("y", 1), ("refuse", v("no"))), None)
        self.assertEqual(serial_result({"x": 1}, refused, gone, gone, (TAKE, None)), (
            {}, [("refused", "no"), ("returned", ""), ("returned", ""), ("refused", "kind")]))
        self.assertEqual(serial_result({"x": 1}, (ENDLESS, None)), ({"x": 1}, [("refused", "steps")]))

    def test_the_same_run_twice(self):
        given = (RAISE, None)
        self.assertEqual(serial_result({"x": 1}, *[given] * 30), ({"x": 31}, [("returned", 1 + i) for i in range(30)]))

    def test_nothing_is_changed(self):
        state, arguments = {"x": 1}, {"b": 2}
        after, endings = serial_result(state, (BLIND, arguments))
        self.assertEqual((state, arguments, after), ({"x": 1}, {"b": 2}, {"x": 3}))
        after = serial_result(state)[0]
        after["x"] = 9
        endings.append(1)
        self.assertEqual((state, serial_result(state, (BLIND, arguments))), ({"x": 1}, ({"x": 3}, [("returned", "")])))

    def test_random_runs(self):
        maker = Maker(random.Random(71))
        for turn in range(150):
            runs = [(maker.program(maker.random.randrange(1, 15)), maker.arguments()) for number in range(maker.random.randrange(5))]
            state = maker.state()
            self.assertEqual(serial_result(state, *runs), serial(state, runs))


class CommuteTest(unittest.TestCase):
    def check(self, state, first, second, wanted):
        for one, other in ((first, second), (second, first)):
            told = commute(state, one, other)
            self.assertTrue(told is wanted, told)

    def test_other_keys(self):
        self.check({"x": 1, "y": 2}, (RAISE, None), ((write("y", 1),), None), True)
        self.check({}, ((), None), ((), None), True)

    def test_equal_states_and_endings(self):
        self.check({"x": 1}, (BLIND, {"b": 2}), (BLIND, {"b": 5}), True)
        self.check({"x": 1}, ((write("x", 3),), None), ((write("x", 3),), {}), True)

    def test_unequal_states(self):
        self.check({"x": 1}, ((write("x", 3),), None), ((write("x", 4),), None), False)
        self.check({"x": 1}, (BLIND, {"b": 2}), ((write("x", 4),), None), False)
        self.check({"x": 1}, (BLIND, {"b": 2}), ((("delete", v("x")), ("write", v("y"), v(1))), None), False)

    def test_unequal_endings(self):
        self.check({"x": 1}, (RAISE, None), (RAISE, None), False)
        self.check({"x": 1}, (RAISE, None), (BLIND, {"b": 1}), False)
        self.check({"x": 1}, ((read("a", v("x")), ("return", n("a"))), None), (BLIND, {"b": 1}), False)

    def test_endings_of_each_run_are_compared(self):
        # Both orders have equal endings, but of other runs: the first one is 1 and the second one 2 in both.
        self.check({"x": 1}, (RAISE, {"a": 0}), (RAISE, None), False)
        first = (write("x", 1), ("return", v("a")))
        second = (write("x", 1), ("return", v("b")))
        self.check({}, (first, None), (second, None), True)

    def test_at_a_state(self):
        self.check({"x": 2}, (TAKE, None), (TAKE, None), True)
        self.check({"x": 1}, (TAKE, None), (TAKE, None), False)
        self.check({"x": 0}, (TAKE, None), (TAKE, None), True)
        self.check({"x": 5}, (TAKE, None), (BLIND, {"b": 1}), True)
        self.check({"x": 0}, (TAKE, None), (BLIND, {"b": 1}), False)

    def test_refused_runs(self):
        self.check({"x": 1}, ((write("x", 3), ("refuse", v(1))), None), (RAISE, None), True)
        self.check({"x": 1}, (ENDLESS, None), (RAISE, None), True)

    def test_scans(self):
        size = (let("l", ("list",)), ("scan", "k", v("u"), (let("l", ("join", n("l"), ("list", n("k")))),)), ("return", n("l")))
        self.check({"ua": 1}, (size, None), ((write("ub", 1),), None), False)
        self.check({"ua": 1}, (size, None), ((write("ua", 2),), None), True)
        self.check({"ua": 1}, (RAISE_ALL, None), ((write("ub", 1),), None), False)

    def test_values_of_unlike_kinds(self):
        self.check({}, ((read("a", v("x")), ("return", n("a"))), None), ((write("x", ""),), None), True)
        self.check({}, ((read("a", v("x")), ("return", n("a"))), None), ((write("x", ()),), None), False)

    def test_random_runs(self):
        maker = Maker(random.Random(73))
        counts = {True: 0, False: 0}
        for turn in range(300):
            state = maker.state()
            first, second = effective_run(maker, state), effective_run(maker, state)
            one, other = serial(state, [first, second]), serial(state, [second, first])
            wanted = (one[0], one[1]) == (other[0], other[1][::-1])
            self.check(state, first, second, wanted)
            counts[wanted] += 1
            if are_independent(*[run(program, state, arguments=arguments) for program, arguments in (first, second)]):
                self.assertTrue(wanted)
        self.assertTrue(min(counts.values()) > 50, counts)

    def test_nothing_is_changed(self):
        state, arguments = {"x": 1}, {"b": 2}
        self.assertTrue(commute(second=(BLIND, arguments), state=state, first=(BLIND, {"b": 1})) is True)
        self.assertEqual((state, arguments), ({"x": 1}, {"b": 2}))


def looks(*keys):
    return run(tuple(read("a", v(key)) for key in keys), {})


def writes(*keys):
    return run(tuple(write(key, 1) for key in keys), {})


def scans(prefix, state=None):
    return run((("scan", "k", v(prefix), ()),), state or {})


class AreIndependentTest(unittest.TestCase):
    def check(self, one, other, wanted):
        for told in (are_independent(one, other), are_independent(other, one)):
            self.assertTrue(told is wanted, told)

    def test_reads(self):
        self.check(looks("x", "y"), looks("x", "y"), True)
        self.check(looks("x", "y"), writes("z", "xx"), True)
        self.check(looks("x", "y"), writes("z", "y"), False)
        self.check(looks("x"), run((("delete", v("x")),), {}), False)

    def test_writes_and_deletions(self):
        gone = run((("delete", v("x")),), {})
        self.check(writes("x"), writes("y"), True)
        self.check(writes("y", "x"), writes("x"), False)
        self.check(gone, writes("x"), False)
        self.check(gone, gone, False)
        self.check(gone, writes("y"), True)

    def test_scans(self):
        self.check(scans("u"), scans("u"), True)
        self.check(scans("u"), writes("ua"), False)
        self.check(scans("u"), writes("u"), False)
        self.check(scans("ua"), writes("u", "ub", "b", "xua"), True)
        self.check(scans(""), writes("x"), False)
        self.check(scans("", {"x": 1}), looks("x"), True)
        self.check(scans("u"), run((("delete", v("ua")),), {}), False)

    def test_keys_found_by_a_scan_were_not_read(self):
        # All that is found begins with the prefix anyway, so no other key counts.
        self.check(scans("u", {"ua": 1}), writes("ub"), False)
        self.check(scans("ua", {"ua": 1}), writes("ub"), True)

    def test_what_was_given_up_counts(self):
        given_up = run((("try", (write("x", 1), ("refuse", v(1))), ()),), {})
        self.assertEqual(given_up.effect, {})
        self.check(given_up, looks("x"), False)
        self.check(given_up, writes("x"), False)
        self.check(run((write("x", 1), ("refuse", v(1))), {}), looks("x"), False)

    def test_refused_steps_count_for_nothing(self):
        refused = run((("try", (("write", v("x"), n("none")), ("delete", n("none"))), ()), ("read", "a", v(1))), {})
        self.check(refused, writes("x"), True)
        self.check(run((("scan", "k", v(1), ()),), {}), writes("x"), True)

    def test_own_writes_that_are_read(self):
        own = run((write("x", 1), read("a", v("x"))), {})
        self.check(own, looks("x"), False)
        self.check(own, looks("y"), True)

    def test_beginnings(self):
        trace = run((read("a", v("x")), write("y", 1), write("z", 1)), {})
        for count, wanted in ((0, (True, True, True)), (1, (False, True, True)), (2, (False, False, True)), (3, (False,) * 3)):
            for key, told in zip("xyz", wanted):
                self.check(trace.first(count), writes(key), told)
        self.check(trace.first(0), trace, True)

    def test_whole_traces(self):
        self.check(run(SUM, {"x": 1, "y": 1}), run(RAISE, {"x": 1}), False)
        self.check(run(SUM, {"x": 1, "y": 1}), run((write("q", 1), read("a", v("x"))), {}), True)
        self.check(run((), {}), run((), {}), True)

    def test_random_traces(self):
        maker = Maker(random.Random(79))
        counts = {True: 0, False: 0}
        for turn in range(300):
            state, told = maker.state(), []
            for number in range(2):
                program, arguments = effective_run(maker, state)
                ran = Reference(program, state, arguments)
                labels = [label for step in ran.steps for label, value in step[1]]
                told.append((run(program, state, arguments=arguments), ran.touched, labels))
            (one, touched, labels), (other, other_touched, other_labels) = told
            wanted = not touched & other_touched
            for keys, seen in ((touched, other_labels), (other_touched, labels)):
                for key in keys:
                    wanted = wanted and ("key", key) not in seen
                    wanted = wanted and not any(kind == "prefix" and key.startswith(word) for kind, word in seen)
            self.check(one, other, wanted)
            counts[wanted] += 1
        self.assertTrue(min(counts.values()) > 50, counts)

    def test_no_traces(self):
        trace = run((), {})
        for wrong in STRANGE + [0, "", {}, (), [], trace.steps]:
            for one, other in ((wrong, trace), (trace, wrong), (wrong, 5)):
                with self.assertRaises(InvalidTrace) as caught:
                    are_independent(one, other)
                self.assertTrue(caught.exception.value is wrong)
        self.assertTrue(are_independent(other=trace, one=trace))


class OrderResultTest(unittest.TestCase):
    def test_orders(self):
        runs = [(RAISE, None), (ADD_ARGUMENT, {"b": 5}), (LESSEN, {"b": 1})]
        self.assertEqual(order_result({"x": 1}, runs, [0, 1, 2]), ({"x": 6}, [("returned", 1), ("returned", 5), ("returned", 7)]))
        self.assertEqual(order_result({"x": 1}, runs, [2, 0, 1]), ({"x": 6}, [("returned", 0), ("returned", 5), ("returned", 1)]))
        self.assertEqual(order_result({"x": 1}, runs, [1, 2, 0]), ({"x": 6}, [("returned", 5), ("returned", 5), ("returned", 6)]))

    def test_no_runs(self):
        self.assertEqual(order_result({"x": 1}, [], []), ({"x": 1}, []))

    def test_all_orders_of_random_runs(self):
        maker = Maker(random.Random(83))
        for turn in range(20):
            runs = [(maker.program(maker.random.randrange(1, 10)), maker.arguments()) for number in range(4)]
            state = maker.state()
            for order in itertools.permutations(range(4)):
                after, endings = serial(state, [runs[index] for index in order])
                told = order_result(state, runs, list(order))
                self.assertEqual(told, (after, [endings[order.index(index)] for index in range(4)]))

    def test_wrong_orders(self):
        runs = [(RAISE, None), (BLIND, {"b": 1})]
        wrong_ones = STRANGE + [[0], [1], [0, 0], [1, 1], [0, 1, 2], [0, 1, 1], [1, 2], [-1, 0], [0, -1], (0, 1), {0: 0, 1: 1}]
        wrong_ones += [[False, True], [0, True], [0.0, 1], ["0", "1"], [0, None], [[0], 1], "01", {0, 1}, range(2), 0, [0, 10 ** 100]]
        for wrong in wrong_ones + [[value, 0] for value in STRANGE]:
            with self.assertRaises(InvalidCount) as caught:
                order_result({"x": 1}, runs, wrong)
            self.assertTrue(caught.exception.value is wrong)
        for wrong in ([0], [None], (), None):
            with self.assertRaises(InvalidCount) as caught:
                order_result({}, [], wrong)
            self.assertTrue(caught.exception.value is wrong)

    def test_one_run(self):
        self.assertEqual(order_result({"x": 1}, [(RAISE, None)], [0]), ({"x": 2}, [("returned", 1)]))
        for wrong in ([], [True], [False], [1], [0, 0]):
            self.assertRaises(InvalidCount, order_result, {"x": 1}, [(RAISE, None)], wrong)

    def test_nothing_is_changed(self):
        state, runs, order = {"x": 1}, [(RAISE, None), (BLIND, {"b": 1})], [1, 0]
        after, endings = order_result(order=order, runs=runs, state=state)
        after.clear()
        endings.clear()
        self.assertEqual((state, runs, order), ({"x": 1}, [(RAISE, None), (BLIND, {"b": 1})], [1, 0]))
        self.assertEqual(order_result(state, runs, order), ({"x": 3}, [("returned", 2), ("returned", "")]))


class ErrorsTest(unittest.TestCase):
    def check_error(self, error, field, value, state, first, second):
        """Check that all functions over runs raise the same error for these."""
        for call in (lambda: serial_result(state, first, second), lambda: commute(state, first, second), lambda: order_result(
                state, [first, second], [0, 1]), lambda: order_result(state, [first, second], 5)):
            with self.assertRaises(error) as caught:
                call()
            self.assertTrue(getattr(caught.exception, field) is value or getattr(caught.exception, field) == value)

    def test_states(self):
        for wrong in WRONG_STATES + [None]:
            self.check_error(InvalidState, "value", wrong, wrong, (RAISE, None), (5, 6))
            with self.assertRaises(InvalidState) as caught:
                serial_result(wrong)
            self.assertTrue(caught.exception.value is wrong)

    def test_programs(self):
        for wrong, place in [(value, ()) for value in STRANGE] + [(WRONG_PROGRAM, (1, "else", 0)), ((5,), (0,))]:
            for arguments in (None, {}, 5):
                self.check_error(InvalidProgram, "place", place, {}, (wrong, arguments), (RAISE, None))
                self.check_error(InvalidProgram, "place", place, {}, (RAISE, {"b": 1}), (wrong, arguments))

    def test_arguments(self):
        for wrong in WRONG_ARGUMENTS:
            self.check_error(InvalidArguments, "value", wrong, {}, (RAISE, wrong), (BLIND, {}))
            self.check_error(InvalidArguments, "value", wrong, {}, (RAISE, wrong), (5, {}))
            self.check_error(InvalidArguments, "value", wrong, {}, (RAISE, None), (BLIND, wrong))

    def test_first_run_with_an_error(self):
        self.check_error(InvalidProgram, "place", (1, "else", 0), {}, (WRONG_PROGRAM, None), (5, 6))
        self.check_error(InvalidArguments, "value", 7, {}, (RAISE, 7), (RAISE, 8))

    def test_tuples_that_are_no_runs(self):
        for wrong in [value for value in STRANGE] + [(), (RAISE,), (RAISE, None, None), [RAISE, None], 5]:
            self.check_error(InvalidProgram, "place", (), {}, wrong, (RAISE, None))
            self.check_error(InvalidProgram, "place", (), {}, (RAISE, None), wrong)
        for wrong in (None, 5, ((RAISE, None),)):
            self.assertRaises(InvalidProgram, order_result, {}, wrong, [0])


if __name__ == "__main__":
    unittest.main()
