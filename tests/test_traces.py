import random
import unittest

from mendedruns.errors import InvalidCount
from mendedruns.running import Trace, run
from tests.building import ENDLESS, RAISE_ALL, SUM, Maker, add, let, n, read, v, write
from tests.strange import STRANGE

MANY = (
    read("a", v("x")),
    ("scan", "k", v("u"), (read("b", n("k")), ("write", n("k"), n("a")))),
    ("try", (read("a", v("y")), ("scan", "k", v(""), ()), write("q", 1), ("delete", v("p")), ("refuse", v(1))), ()),
    read("a", v("x")), ("delete", v("x")), ("return", n("a")),
)
STATE = {"x": 5, "ub": 2, "ua": 1}
NO_COUNTS = [value for value in STRANGE] + [-1, -10 ** 100, "", "1", (), (1,), {}, "a"]


class Same:
    """Is equal to everything."""

    def __eq__(self, other):
        return True


class PropertiesTest(unittest.TestCase):
    def test_steps_ending_and_effect(self):
        trace = run(SUM, {"x": 1, "y": 2})
        self.assertEqual(trace.steps, [
            ((0,), ((("key", "x"), 1),), ("done", 1)), ((1,), ((("key", "y"), 2),), ("done", 2)),
            ((2,), ((("name", "a"), 1), (("name", "b"), 2)), ("done", ("z", 3))), ((3,), ((("name", "a"), 1),), ("done", 1))])
        self.assertEqual((trace.ending, trace.effect), (("returned", 1), {"z": 3}))
        self.assertTrue(isinstance(trace, Trace))

    def test_reads_prefixes_and_touched(self):
        trace = run(MANY, STATE)
        self.assertEqual(trace.reads, ["ua", "ub", "x", "y"])
        self.assertEqual(trace.prefixes, ["", "u"])
        self.assertEqual(trace.touched, ["p", "q", "ua", "ub", "x"])
        self.assertEqual(trace.effect, {"ua": 5, "ub": 5, "x": None})

    def test_nothing_read_and_touched(self):
        for trace in (run((), {}), run((let("a", v(1)),), {"a": 1}), run(SUM, {}).first(0)):
            self.assertEqual((trace.reads, trace.prefixes, trace.touched, trace.effect), ([], [], [], {}))

    def test_only_writes_and_deletions_touch(self):
        program = (let("a", v(("x", 1))), ("return", v(("y", 2))))
        self.assertEqual(run(program, {}).touched, [])
        program = (("define", "f", ("b", "c"), ()), ("call", "a", "f", (v("x"), v(1))), let("a", v("x")))
        self.assertEqual(run(program, {}).touched, [])

    def test_refused_steps_touch_nothing(self):
        for wrong in (("write", v("x"), n("none")), ("write", v(1), v(1)), ("delete", v(1)), ("delete", n("none"))):
            self.assertEqual(run((wrong,), {}).touched, [])

    def test_refused_runs(self):
        trace = run((write("x", 1), ("refuse", v(1))), {})
        self.assertEqual((trace.effect, trace.touched, trace.ending), ({}, ["x"], ("refused", 1)))

    def test_each_list_and_dict_is_new(self):
        trace = run(MANY, STATE)
        told = repr(trace)
        for asked in ("steps", "reads", "prefixes", "touched"):
            getattr(trace, asked).clear()
            getattr(trace, asked).append(1)
            self.assertFalse(getattr(trace, asked) is getattr(trace, asked))
        trace.effect.clear()
        trace.effect["new"] = 1
        self.assertEqual(repr(trace), told)
        self.assertEqual((trace.reads, trace.effect), (["ua", "ub", "x", "y"], {"ua": 5, "ub": 5, "x": None}))

    def test_properties_are_not_assigned(self):
        trace = run(SUM, {})
        for name in ("steps", "ending", "effect", "reads", "prefixes", "touched"):
            self.assertTrue(isinstance(getattr(Trace, name), property))
            self.assertRaises(AttributeError, setattr, trace, name, 1)


class PlacesTest(unittest.TestCase):
    def test_step(self):
        trace = run(RAISE_ALL, {"ua": 1, "ub": 2})
        for step in trace.steps:
            self.assertEqual(trace.step(step[0]), step)
            self.assertEqual(trace.step(place=step[0]), step)
            self.assertTrue((step[0] in trace) is True)
        self.assertEqual(trace.step((0, "scan", "ub", 0)), (
            (0, "scan", "ub", 0), ((("name", "k"), "ub"), (("key", "ub"), 2)), ("done", 2)))

    def test_no_places(self):
        wrong_ones = [(), (1,), (True,), (False,), (-1,), (9,), (0.0,), (1, "scan", "ua", 0), ("0",), ((0,),), (None,), ([0],)]
        trace = run((let("a", v(1)), ("try", (), ()), let("a", v(1))), {})
        for place in STRANGE + wrong_ones + [0, 1, "", "a", {}, [0], [(0,)], [(0,), "a"], ({},), (STRANGE,), (set(),), (Same(),)]:
            self.assertTrue(trace.step(place) is None)
            self.assertTrue((place in trace) is False)

    def test_true_and_one(self):
        trace = run((("if", v(1), (let("a", v(1)), let("b", v(2))), ()),), {})
        self.assertEqual(trace.step((0, "then", 1))[2], ("done", 2))
        for place in ((False,), (False, "then", 1), (0, "then", True), (0, "then", False)):
            self.assertTrue(trace.step(place) is None)
            self.assertFalse(place in trace)

    def test_places_behind_a_beginning(self):
        trace = run(SUM, {"x": 1, "y": 2}).first(2)
        self.assertTrue((1,) in trace and (2,) not in trace)
        self.assertTrue(trace.step((2,)) is None)

    def test_statements_that_were_not_reached(self):
        trace = run((("if", v(0), (let("a", v(1)),), ()), ("refuse", v(1)), let("a", v(1))), {})
        self.assertTrue((0, "then", 0) not in trace and (2,) not in trace)


class FirstTest(unittest.TestCase):
    def test_beginnings(self):
        trace = run(SUM, {"x": 1, "y": 2})
        for count in range(4):
            beginning = trace.first(count)
            self.assertEqual(beginning.steps, trace.steps[:count])
            self.assertEqual((beginning.ending, beginning.effect, len(beginning)), (None, {}, count))
            self.assertTrue(beginning.first(count) is beginning)
            self.assertEqual(trace.first(3).first(count), beginning)

    def test_not_more_steps(self):
        trace = run(SUM, {"x": 1, "y": 2})
        for count in (4, 5, 10 ** 100):
            self.assertTrue(trace.first(count) is trace)
            self.assertEqual(trace.first(count=count).ending, ("returned", 1))
        empty = run((), {})
        self.assertTrue(empty.first(0) is empty)
        self.assertEqual(empty.ending, ("returned", ""))

    def test_what_beginnings_tell(self):
        beginning = run(MANY, STATE).first(4)
        self.assertEqual((beginning.reads, beginning.prefixes, beginning.touched), (["ua", "x"], ["u"], ["ua"]))
        self.assertEqual(run(MANY, STATE).first(3).touched, [])

    def test_no_counts(self):
        for wrong in NO_COUNTS:
            with self.assertRaises(InvalidCount) as caught:
                run(SUM, {}).first(wrong)
            self.assertTrue(caught.exception.value is wrong)


class EqualityTest(unittest.TestCase):
    def test_equal_traces(self):
        self.assertTrue(run(SUM, {"x": 1, "y": 2}) == run(SUM, {"y": 2, "x": 1, "q": 3}))
        self.assertFalse(run(SUM, {"x": 1, "y": 2}) != run(SUM, {"x": 1, "y": 2}))
        self.assertTrue(run(SUM, {"x": 1, "y": 2}).first(1) == run(SUM, {"x": 1, "y": 3}).first(1))
        self.assertTrue(run((write("x", 1), write("y", 2)), {}) == run((write("x", 1), write("y", 2)), {"z": 1}))

    def test_unequal_traces(self):
        trace = run(SUM, {"x": 1, "y": 2})
        others = [run(SUM, {"x": 1, "y": 3}), run(SUM, {"x": 2, "y": 1}), trace.first(3), trace.first(0), run((), {})]
        others += [run(SUM[:3], {"x": 1, "y": 2}), run(SUM[:3] + (("return", n("b")),), {"x": 1, "y": 2})]
        for other in others:
            self.assertTrue(trace != other and other != trace)
            self.assertFalse(trace == other or other == trace)

    def test_only_the_place_differs(self):
        self.assertFalse(run((let("a", v(1)), ("try", (), ())), {}) == run((("try", (), ()), let("a", v(1))), {}))

    def test_only_the_ending_differs(self):
        whole = run(SUM[:3], {"x": 1, "y": 2})
        beginning = run(SUM, {"x": 1, "y": 2}).first(3)
        self.assertEqual(whole.steps, beginning.steps)
        self.assertFalse(whole == beginning)

    def test_only_the_effect_differs(self):
        one = run((("write", v("x"), v(1)),), {})
        other = run((let("a", v(("x", 1))),), {})
        self.assertEqual((one.steps, one.ending), (other.steps, other.ending))
        self.assertFalse(one == other)

    def test_no_traces(self):
        trace = run(SUM, {"x": 1, "y": 2})
        for other in STRANGE + [trace.steps, tuple(trace.steps), repr(trace), 4, {}]:
            self.assertFalse(trace == other)
            self.assertTrue(trace != other)

    def test_lengths(self):
        self.assertEqual([len(run(SUM, {})), len(run((), {})), len(run(ENDLESS, {}).first(7))], [3, 0, 7])


class ReprTest(unittest.TestCase):
    def test_repr(self):
        trace = run((write("y", 1), ("delete", v("x")), write("a", ("b",))), {})
        steps = "[((0,), (), ('done', ('y', 1))), ((1,), (), ('done', 'x')), ((2,), (), ('done', ('a', ('b',))))]"
        self.assertEqual(repr(trace), "Trace(" + steps + ", ('returned', ''), {'a': ('b',), 'x': None, 'y': 1})")
        self.assertEqual(repr(trace.first(1)), "Trace([((0,), (), ('done', ('y', 1)))], None, {})")
        self.assertEqual(repr(run((), {})), "Trace([], ('returned', ''), {})")
        self.assertEqual(repr(run(SUM, {}).first(0)), "Trace([], None, {})")

    def test_effect_in_ascending_order(self):
        program = tuple(write(key, 1) for key in ("b", "a10", "a2", "0", "z", "a"))
        self.assertTrue(repr(run(program, {})).endswith("{'0': 1, 'a': 1, 'a10': 1, 'a2': 1, 'b': 1, 'z': 1})"))

    def test_random_traces(self):
        maker = Maker(random.Random(3))
        for turn in range(50):
            trace = run(maker.program(15), maker.state(), arguments=maker.arguments())
            effect = {key: trace.effect[key] for key in sorted(trace.effect)}
            self.assertEqual(repr(trace), "Trace(" + ", ".join([repr(trace.steps), repr(trace.ending), repr(effect)]) + ")")
            self.assertEqual(trace.reads, sorted(set(
                label[1] for step in trace.steps for label, value in step[1] if label[0] == "key")))


if __name__ == "__main__":
    unittest.main()
