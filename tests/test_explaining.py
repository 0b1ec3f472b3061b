import random
import time
import unittest

from mendedruns.certificates import certificate
from mendedruns.desks import Desk, first_broken
from mendedruns.errors import InvalidName, InvalidState
from mendedruns.explaining import first_wrong_reason, reasons
from mendedruns.running import run
from mendedruns.values import are_equal
from tests.building import RAISE_ALL, SUM, Maker, add, let, n, read, v, write
from tests.reference import Reference
from tests.strange import STRANGE
from tests.test_desk_histories import CONSTRAINTS
from tests.test_desks import NOT_BELOW_ZERO, RAISE, TAKE, busy_desk
from tests.test_lineage import NO_KEYS

WRITE_X = (("write", v("x"), v(5)),)


def known(name, value):
    return (("name", name), value)


def found(key, value):
    return (("key", key), value)


def desk_behind(state, *runs, constraints=()):
    """Return a desk behind the commits of these tuples (name, program) or (name, program, arguments)."""
    desk = Desk(state, constraints=constraints)
    for name, program, *arguments in runs:
        desk.begin(name, program, arguments=arguments[0] if arguments else None)
        desk.commit(name)
    return desk


def wanted_reasons(state, certified, key):
    """Return the list of the reasons, found step by step by running the programs of a certificate anew."""
    entries, last = {}, {}
    for name, program, arguments, steps, ending in certified:
        ran = Reference(program, state, dict(arguments))
        for (place, inputs, outcome), sources in zip(ran.steps, ran.sources):
            origins = []
            for (label, value), source in zip(inputs, sources):
                pairs = zip(value, source) if label[0] == "prefix" else [(label[1], source)]
                named = tuple((name, one) if isinstance(one, tuple) else last.get(word, "start") if one == "store" else one
                              for word, one in pairs)
                origins.append(named if label[0] == "prefix" else named[0])
            entries[name, place] = (name, place, inputs, tuple(origins), outcome)
        if ending[0] == "returned":
            for changed, value, place in ran.log:
                last[changed] = (name, place)
            state = {changed: value for changed, value in {**state, **ran.effect}.items() if value is not None}
    needed, waiting = set(), [last[key]] if key in last else []
    while waiting:
        step = waiting.pop()
        if step not in needed:
            needed.add(step)
            for (label, value), origin in zip(entries[step][2], entries[step][3]):
                waiting += [one for one in (origin if label[0] == "prefix" else [origin]) if isinstance(one, tuple)]
    return [entry for step, entry in entries.items() if step in needed]


class ReasonsTest(unittest.TestCase):
    def check(self, desk, key, wanted):
        self.assertTrue(are_equal(tuple(reasons(desk, key)), tuple(wanted)), reasons(desk, key))
        self.assertTrue(first_wrong_reason(desk, key, wanted) is None)

    def test_no_run_with_an_effect_on_the_key(self):
        desk = desk_behind({"x": 1, "y": 1}, ("one", (write("y", 2),)), ("two", (write("x", 2), ("refuse", v(1)))))
        desk.begin("three", WRITE_X)
        desk.advance("three", 5)
        desk.begin("four", WRITE_X)
        desk.abort("four")
        for key in ("x", "z", "q0"):
            self.check(desk, key, [])
        self.check(Desk({"x": 1}), "x", [])

    def test_one_step(self):
        desk = desk_behind({"x": 1}, ("one", WRITE_X))
        self.check(desk, "x", [("one", (0,), (), (), ("done", ("x", 5)))])

    def test_steps_of_one_run(self):
        desk = desk_behind({"x": 1, "y": 2}, ("one", SUM))
        self.check(desk, "z", [
            ("one", (0,), (found("x", 1),), ("start",), ("done", 1)), ("one", (1,), (found("y", 2),), ("start",), ("done", 2)),
            ("one", (2,), (known("a", 1), known("b", 2)), (("one", (0,)), ("one", (1,))), ("done", ("z", 3)))])

    def test_only_steps_that_are_needed(self):
        program = (read("a", v("y")), read("b", v("x")), let("c", n("b")), ("write", v("q"), n("a")), ("write", v("r"), n("c")))
        desk = desk_behind({"y": 7}, ("one", program))
        self.check(desk, "r", [
            ("one", (1,), (found("x", ""),), ("start",), ("done", "")), ("one", (2,), (known("b", ""),), (("one", (1,)),), (
                "done", "")), ("one", (4,), (known("c", ""),), (("one", (2,)),), ("done", ("r", "")))])

    def test_earlier_runs(self):
        desk = desk_behind({"x": 1}, ("one", RAISE), ("other", (write("y", 1),)), ("two", RAISE))
        self.check(desk, "x", [
            ("one", (0,), (found("x", 1),), ("start",), ("done", 1)),
            ("one", (1,), (known("a", 1),), (("one", (0,)),), ("done", ("x", 2))),
            ("two", (0,), (found("x", 2),), (("one", (1,)),), ("done", 2)),
            ("two", (1,), (known("a", 2),), (("two", (0,)),), ("done", ("x", 3)))])

    def test_latest_run_with_an_effect(self):
        desk = desk_behind({"x": 1}, ("one", RAISE), ("two", WRITE_X), ("three", (read("a", v("x")), write("y", 1))))
        self.check(desk, "x", [("two", (0,), (), (), ("done", ("x", 5)))])
        self.check(desk, "y", [("three", (1,), (), (), ("done", ("y", 1)))])

    def test_effects_that_change_nothing(self):
        desk = desk_behind({"x": 5}, ("one", WRITE_X), ("two", WRITE_X), ("three", RAISE))
        self.assertEqual([entry[:2] for entry in reasons(desk, "x")], [("two", (0,)), ("three", (0,)), ("three", (1,))])

    def test_deletions(self):
        gone = (("delete", v("x")),)
        desk = desk_behind({"x": 5}, ("one", gone), ("two", gone), ("three", (read("a", v("x")), ("write", v("y"), n("a")))))
        self.check(desk, "x", [("two", (0,), (), (), ("done", "x"))])
        self.check(desk, "y", [
            ("two", (0,), (), (), ("done", "x")), ("three", (0,), (found("x", ""),), (("two", (0,)),), ("done", "")),
            ("three", (1,), (known("a", ""),), (("three", (0,)),), ("done", ("y", "")))])
        self.check(desk_behind({}, ("one", (("delete", n("a")),), {"a": "q"})), "q", [
            ("one", (0,), (known("a", "q"),), ("argument",), ("done", "q"))])

    def test_last_step_of_a_run_that_wrote_or_deleted(self):
        program = (write("x", 1), read("a", v("x")), ("delete", v("x")), read("b", v("x")), ("write", v("y"), n("a")), ("write", v(
            "z"), n("b")))
        desk = desk_behind({"x": 9}, ("one", program))
        self.check(desk, "x", [("one", (2,), (), (), ("done", "x"))])
        self.assertEqual([entry[1] for entry in reasons(desk, "y")], [(0,), (1,), (4,)])
        self.check(desk, "z", [
            ("one", (2,), (), (), ("done", "x")), ("one", (3,), (found("x", ""),), (("one", (2,)),), ("done", "")),
            ("one", (5,), (known("b", ""),), (("one", (3,)),), ("done", ("z", "")))])

    def test_what_was_given_up(self):
        program = (("try", (write("x", 1), write("y", 1), ("refuse", v(0))), (write("y", 2),)), read("a", v("x")), ("write", v(
            "z"), n("a")))
        desk = desk_behind({}, ("zero", WRITE_X), ("one", program))
        self.check(desk, "x", [("zero", (0,), (), (), ("done", ("x", 5)))])
        self.check(desk, "y", [("one", (0, "other", 0), (), (), ("done", ("y", 2)))])
        self.assertEqual([entry[:2] for entry in reasons(desk, "z")], [("zero", (0,)), ("one", (1,)), ("one", (2,))])
        before = (write("x", 1), ("try", (write("x", 2), ("refuse", v(0))), ()))
        self.check(desk_behind({}, ("one", before)), "x", [("one", (0,), (), (), ("done", ("x", 1)))])

    def test_scans(self):
        program = (
            write("ud", 4), ("delete", v("ue")), ("scan", "k", v("u"), ()), ("write", v("z"), n("k")),
        )
        desk = desk_behind({"ua": 1, "ue": 1, "uf": 1}, ("one", (write("ub", 2), ("delete", v("uf")))), ("two", program))
        self.check(desk, "z", [
            ("one", (0,), (), (), ("done", ("ub", 2))), ("two", (0,), (), (), ("done", ("ud", 4))),
            ("two", (2,), ((("prefix", "u"), ("ua", "ub", "ud")),), (("start", ("one", (0,)), ("two", (0,))),), (
                "done", ("ua", "ub", "ud"))),
            ("two", (3,), (known("k", "ud"),), (("two", (2,)),), ("done", ("z", "ud")))])

    def test_scans_that_find_nothing_or_use_variables(self):
        program = (("scan", "k", n("p"), ()), ("scan", "q", n("k"), ()), ("write", v("z"), n("q")))
        desk = desk_behind({"a": 1}, ("one", program, {"p": "b", "k": "c", "q": 0}))
        self.assertEqual([entry[3] for entry in reasons(desk, "z")], [("argument",)])
        desk = desk_behind({"a": 1}, ("one", program, {"p": "a"}))
        self.check(desk, "z", [
            ("one", (0,), (known("p", "a"), (("prefix", "a"), ("a",))), ("argument", ("start",)), ("done", ("a",))),
            ("one", (1,), (known("k", "a"), (("prefix", "a"), ("a",))), (("one", (0,)), ("start",)), ("done", ("a",))),
            ("one", (2,), (known("q", "a"),), (("one", (1,)),), ("done", ("z", "a")))])
        self.check(desk_behind({}, ("one", (("scan", "k", v(""), ()), ("write", v("z"), ("size", v("")))))), "z", [
            ("one", (1,), (), (), ("done", ("z", 0)))])

    def test_empty_tuples_of_origins(self):
        program = (("try", (("scan", "k", v("q"), ()), ("write", v("z"), n("k"))), (write("z", 1),)),)
        self.check(desk_behind({}, ("one", program)), "z", [("one", (0, "other", 0), (), (), ("done", ("z", 1)))])
        desk = desk_behind({}, ("one", (let("l", ("list",)), ("each", "i", n("l"), ()), ("write", v("z"), n("l")))))
        self.assertEqual([entry[1] for entry in reasons(desk, "z")], [(0,), (2,)])

    def test_arguments_and_missing_variables(self):
        program = (("try", (let("a", n("none")),), (("write", n("k"), n("b")),)), let("c", n("b")), ("write", v("y"), n("c")))
        desk = desk_behind({}, ("one", program, {"k": "x", "b": (1,)}))
        self.check(desk, "x", [
            ("one", (0, "other", 0), (known("k", "x"), known("b", (1,))), ("argument", "argument"), ("done", ("x", (1,))))])
        self.check(desk, "y", [
            ("one", (1,), (known("b", (1,)),), ("argument",), ("done", (1,))), ("one", (2,), (known("c", (1,)),), (
                ("one", (1,)),), ("done", ("y", (1,))))])

    def test_variables_without_a_value_have_no_origin(self):
        # Such a step is refused, so nothing that stands under a key rests on it: its entry is never needed.
        desk = desk_behind({}, ("one", (("try", (("write", v("x"), n("none")),), ()), write("y", 1))))
        self.check(desk, "x", [])
        self.check(desk, "y", [("one", (1,), (), (), ("done", ("y", 1)))])

    def test_blocks_do_not_rest_on_conditions(self):
        program = (read("a", v("y")), ("if", n("a"), (write("x", 1),), ()), ("while", n("a"), (let("a", v(0)), write("w", 1))))
        desk = desk_behind({"y": 1}, ("one", program))
        self.check(desk, "x", [("one", (1, "then", 0), (), (), ("done", ("x", 1)))])
        self.check(desk, "w", [("one", (2, "while", 0, 1), (), (), ("done", ("w", 1)))])

    def test_items_keys_and_results(self):
        program = (
            ("define", "f", ("p",), (let("r", n("p")), ("if", n("p"), (("return", n("r")),), ()))),
            ("each", "i", v((3,)), (("write", v("x"), n("i")),)), ("scan", "k", v("y"), (("write", v("q"), n("k")),)),
            ("call", "c", "f", (n("b"),)), ("write", v("r"), n("c")), ("call", "d", "f", (v(0),)), ("write", v("s"), n("d")),
        )
        desk = desk_behind({"y": 1}, ("one", program, {"b": 2}))
        places = {key: [entry[1] for entry in reasons(desk, key)] for key in "xqrs"}
        self.assertEqual(places, {
            "x": [(1,), (1, "each", 0, 0)], "q": [(2,), (2, "scan", "y", 0)],
            "r": [(3,), (3, "call", 0), (3, "call", 1, "then", 0), (4,)], "s": [(5,), (6,)]})
        self.assertEqual(reasons(desk, "r")[-1][3], (("one", (3, "call", 1, "then", 0)),))

    def test_broken_runs(self):
        less = (read("a", v("x")), ("write", v("x"), ("subtract", n("a"), v(9))))
        desk = desk_behind({"x": 3}, ("one", RAISE), ("two", less), ("three", RAISE), constraints=(NOT_BELOW_ZERO,))
        self.assertEqual(desk.ended["two"], ("broken", 0))
        self.assertEqual([entry[:2] for entry in reasons(desk, "x")], [
            ("one", (0,)), ("one", (1,)), ("three", (0,)), ("three", (1,))])
        desk = desk_behind({"x": 3}, ("two", less), constraints=(NOT_BELOW_ZERO,))
        self.check(desk, "x", [])

    def test_refused_runs(self):
        desk = desk_behind({"x": 1}, ("one", TAKE), ("two", TAKE), ("three", RAISE))
        self.assertEqual([entry[:2] for entry in reasons(desk, "x")], [
            ("one", (0,)), ("one", (2,)), ("three", (0,)), ("three", (1,))])

    def test_order_of_commits(self):
        desk = Desk({"x": 1})
        for name in ("a", "b", "c", "d"):
            desk.begin(name, RAISE)
            desk.advance(name, 3)
        desk.refresh("d")
        desk.abort("b")
        desk.commit_all(["d", "a"])
        desk.commit("c")
        self.assertEqual([entry[:2] for entry in reasons(desk, "x")], [
            (name, place) for name in "dac" for place in ((0,), (1,))])
        self.assertEqual(reasons(desk, "x")[2][2:4], ((found("x", 2),), (("d", (1,)),)))

    def test_steps_in_order_though_found_in_another(self):
        program = (read("b", v("y")), read("a", v("x")), ("write", v("z"), add(n("a"), n("b"))))
        desk = desk_behind({}, ("one", (write("y", 1),)), ("two", (write("q", 1), write("x", 1))), ("three", program))
        self.assertEqual([entry[:2] for entry in reasons(desk, "z")], [
            ("one", (0,)), ("two", (1,)), ("three", (0,)), ("three", (1,)), ("three", (2,))])

    def test_loops_over_a_scan(self):
        desk = desk_behind({"ua": 1, "ub": 2}, ("one", RAISE_ALL), ("two", RAISE_ALL))
        self.assertEqual([entry[:2] for entry in reasons(desk, "ub")], [
            ("one", (0,)), ("one", (0, "scan", "ua", 0)), ("one", (0, "scan", "ua", 1)), ("one", (0, "scan", "ub", 0)), (
                "one", (0, "scan", "ub", 1)), ("two", (0,)), ("two", (0, "scan", "ub", 0)), ("two", (0, "scan", "ub", 1))])

    def test_behind_a_tidy(self):
        desk = busy_desk()
        before = {key: reasons(desk, key) for key in "xyz"}
        desk.abort("three")
        desk.abort("five")
        desk.tidy()
        self.assertEqual({key: reasons(desk, key) for key in "xyz"}, before)
        self.assertEqual([entry[:2] for entry in before["x"]], [("one", (0,)), ("one", (1,))])

    def test_copies_and_trials(self):
        desk = desk_behind({"x": 1}, ("one", RAISE))
        with desk.trial() as tried:
            tried.begin("two", WRITE_X)
            tried.commit("two")
            self.assertEqual([entry[0] for entry in reasons(tried, "x")], ["two"])
        self.assertEqual([entry[0] for entry in reasons(desk, "x")], ["one", "one"])
        self.assertEqual(reasons(desk.copy(), "x"), reasons(desk, "x"))

    def test_the_desk_stays_as_it_was(self):
        desk = busy_desk()
        reasons(key="x", desk=desk).clear()
        first_wrong_reason(value=[], key="x", desk=desk)
        self.assertTrue(desk == busy_desk())
        self.assertEqual(len(reasons(desk, "x")), 2)

    def test_long_histories(self):
        desk = desk_behind({}, *[("n" + "abcdefghij"[i // 10] + "abcdefghij"[i % 10], (
            ("try", RAISE[:2], (write("x", 1),)),)) for i in range(100)])
        begin = time.process_time()
        self.assertEqual(len(reasons(desk, "x")), 1 + 2 * 99)
        self.assertTrue(time.process_time() - begin < 2)

    def test_steps_that_rest_on_all_before_them_in_two_ways(self):
        double = (
            let("a", ("list", ("size", n("a")), ("size", n("b")))), let("b", ("list", ("size", n("b")), ("size", n("a")))),
            ("write", v("z"), n("b")),
        )
        program = (let("i", v(0)), read("a", v("x")), read("b", v("y")), (
            "while", ("less", n("i"), v(150)), (let("i", add(n("i"), v(1))),) + double))
        desk = desk_behind({}, ("one", program))
        begin = time.process_time()
        self.assertEqual(len(reasons(desk, "z")), 2 + 300 + 1)
        self.assertTrue(time.process_time() - begin < 2)

    def test_random_histories(self):
        maker = Maker(random.Random(67))
        lengths = []
        for turn in range(40):
            state = maker.state()
            constraints = CONSTRAINTS if turn % 2 else ()
            while first_broken(constraints, state) is not None:
                state = maker.state()
            desk = Desk(state, constraints=constraints)
            for number in range(30):
                name = "n" + "abcdefghijklmnopqrstuvwxyzabcdefg"[number] * (1 + number // 26)
                desk.begin(name, maker.program(maker.random.randrange(1, 14)), arguments=maker.arguments())
                if maker.random.random() < 0.8:
                    desk.commit(maker.random.choice(desk.active))
                if len(desk) > 15:
                    desk.tidy()
            for key in ("x", "y", "ua", "ub", "uc", "zz"):
                wanted = wanted_reasons(state, certificate(desk), key)
                self.check(desk, key, wanted)
                lengths.append(len(wanted))
        self.assertTrue(max(lengths) > 10 and lengths.count(0) < 150)


class FirstWrongReasonTest(unittest.TestCase):
    def setUp(self):
        self.desk = desk_behind({"x": 1}, ("one", RAISE), ("two", (read("a", v("x")), ("scan", "k", v("x"), ()), (
            "write", v("z"), ("list", n("a"), n("k"), n("p")))), {"p": 0}))
        self.right = reasons(self.desk, "z")

    def check(self, value, wanted):
        self.assertEqual(first_wrong_reason(self.desk, "z", value), wanted)

    def test_right_and_shorter_lists(self):
        self.assertEqual(len(self.right), 5)
        self.check(self.right, None)
        self.assertTrue(first_wrong_reason(self.desk, "q", []) is None)
        for count in range(5):
            self.check(self.right[:count], count)

    def test_longer_lists(self):
        for more in STRANGE + [(), self.right[4], 5]:
            self.check(self.right + [more], 5)
            self.assertEqual(first_wrong_reason(self.desk, "q", [more]), 0)

    def test_no_lists(self):
        for wrong in [value for value in STRANGE if not isinstance(value, list)] + [tuple(self.right), {}, "", 0, ()]:
            self.check(wrong, 0)
            self.assertEqual(first_wrong_reason(self.desk, "q", wrong), 0)

    def test_one_entry_changed(self):
        for index, entry in enumerate(self.right):
            wrong_ones = STRANGE + [(), 5, "", list(entry), entry[:4], entry + (1,), entry[::-1]]
            for number in range(5):
                for other in STRANGE + [(), "two", (5,), (("start", "start"),)]:
                    if not are_equal(other, entry[number]):
                        wrong_ones.append(entry[:number] + (other,) + entry[number + 1:])
            for wrong in wrong_ones:
                self.check(self.right[:index] + [wrong] + self.right[index + 1:], index)
                self.check(self.right[:index] + [wrong], index)

    def test_one_and_true(self):
        entry = self.right[0]
        self.assertEqual(entry, ("one", (0,), (found("x", 1),), ("start",), ("done", 1)))
        for wrong in (("one", (False,)) + entry[2:], entry[:2] + ((found("x", True),),) + entry[3:], entry[:4] + (("done", True),)):
            self.check([wrong] + self.right[1:], 0)
        self.check(self.right[:4] + [self.right[4][:2] + ((known("a", 2), known("k", "x"), known("p", False)),) + self.right[
            4][3:]], 4)

    def test_entries_exchanged_left_out_or_doubled(self):
        for index in range(4):
            self.check(self.right[:index] + [self.right[index + 1], self.right[index]] + self.right[index + 2:], index)
            self.check(self.right[:index] + self.right[index + 1:], index)
            self.check(self.right[:index + 1] + self.right[index:], index + 1)

    def test_another_key(self):
        self.assertEqual(first_wrong_reason(self.desk, "x", self.right), 2)
        self.assertEqual(first_wrong_reason(self.desk, "z", reasons(self.desk, "x")), 2)

    def test_the_list_stays_as_it_was(self):
        value = list(self.right)
        self.check(value, None)
        self.assertEqual(value, self.right)


class ErrorsTest(unittest.TestCase):
    def check_error(self, error, wrong, desk, key):
        for call in (lambda: reasons(desk, key), lambda: first_wrong_reason(desk, key, 5), lambda: first_wrong_reason(desk, key, [])):
            with self.assertRaises(error) as caught:
                call()
            self.assertTrue(caught.exception.value is wrong)

    def test_no_desks(self):
        for wrong in STRANGE + [0, "", {}, (), {"x": 1}, run((), {})]:
            for key in ("x", "", 5, None):
                self.check_error(InvalidState, wrong, wrong, key)

    def test_no_keys(self):
        desk = busy_desk()
        for wrong in NO_KEYS:
            self.check_error(InvalidName, wrong, desk, wrong)
        self.assertTrue(desk == busy_desk())


if __name__ == "__main__":
    unittest.main()
