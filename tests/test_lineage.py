import random
import time
import unittest

from mendedruns.errors import InvalidArguments, InvalidName, InvalidProgram, InvalidState
from mendedruns.lineage import lineage, resting_places
from mendedruns.running import run
from tests.building import ENDLESS, RAISE_ALL, SUM, Maker, add, let, n, read, v, write
from tests.reference import Reference
from tests.strange import STRANGE
from tests.test_running import WRONG_ARGUMENTS, WRONG_STATES

NO_KEYS = STRANGE + ["", "A", "a" * 61, "a b", 0, 1, (), ("x",), {}, ["x"]]


def wanted_lineages(program, state, arguments):
    """Return the dict from places to lineages, found step by step from the sources of a reference run."""
    told = Reference(program, state, arguments)
    rests = {}
    for (place, inputs, outcome), sources in zip(told.steps, told.sources):
        mine = {"key": set(), "prefix": set(), "name": set()}
        for (label, value), source in zip(inputs, sources):
            if label[0] == "prefix":
                mine["prefix"].add(label[1])
            elif source in ("store", "argument"):
                mine[label[0]].add(label[1])
            for origin in source if label[0] == "prefix" else (source,):
                if isinstance(origin, tuple):
                    for kind in mine:
                        mine[kind] |= rests[origin][kind]
        rests[place] = mine
    return {place: tuple(sorted(rests[place][kind]) for kind in ("key", "prefix", "name")) for place in rests}


class LineageTest(unittest.TestCase):
    def check(self, program, state, wanted, arguments=None):
        for place, told in wanted.items():
            self.assertEqual(lineage(program, state, place, arguments=arguments), told)

    def test_examples(self):
        self.assertEqual(lineage(SUM, {"x": 1, "y": 2}, (2,)), (["x", "y"], [], []))
        self.assertEqual(resting_places(SUM, {"x": 1, "y": 2}, "y"), [(1,), (2,)])

    def test_straight_programs(self):
        self.check(SUM, {}, {(0,): (["x"], [], []), (1,): (["y"], [], []), (2,): (["x", "y"], [], [])})
        program = (let("a", v(1)), let("b", n("a")), ("return", n("none")))
        self.check(program, {}, {(0,): ([], [], []), (1,): ([], [], []), (2,): ([], [], [])})

    def test_arguments(self):
        program = (let("c", n("b")), let("d", add(n("c"), n("a"))), let("a", v(1)), let("e", n("a")), let("f", n("none")))
        self.check(program, {}, {
            (0,): ([], [], ["b"]), (1,): ([], [], ["a", "b"]), (2,): ([], [], []), (3,): ([], [], []),
            (4,): ([], [], [])}, {"a": 1, "b": 2, "c": 3})

    def test_own_writes_and_deletions(self):
        program = (
            read("a", v("y")), ("write", v("x"), n("a")), read("b", v("x")), ("delete", v("z")), read("c", v("z")),
            write("q", 1), read("d", v("q")),
        )
        self.check(program, {"x": 1}, {
            (1,): (["y"], [], []), (2,): (["y"], [], []), (3,): ([], [], []), (4,): ([], [], []), (6,): ([], [], [])})
        self.assertEqual(resting_places(program, {"x": 1}, "x"), [])
        self.assertEqual(resting_places(program, {"x": 1}, "y"), [(0,), (1,), (2,)])

    def test_keys_that_are_read_from_keys(self):
        program = (read("k", v("x")), read("a", n("k")), read("b", v("z")), ("write", n("k"), n("b")), read("c", n("k")))
        self.check(program, {"x": "y"}, {(1,): (["x", "y"], [], []), (4,): (["x", "z"], [], [])})

    def test_loops(self):
        program = (
            read("l", v("x")), ("each", "i", n("l"), (read("a", v("y")), let("s", add(n("a"), n("i"))))), ("return", n("s")),
            read("w", v("w")), ("while", n("w"), (let("w", v(0)), let("u", v(1)))), let("t", n("u")),
        )
        self.check(program[:3], {"x": (1, 2), "y": 1}, {
            (1,): (["x"], [], []), (1, "each", 0, 0): (["y"], [], []), (1, "each", 1, 1): (["x", "y"], [], []),
            (2,): (["x", "y"], [], [])})
        self.check(program[3:], {"w": 1}, {
            (1, "while", 0): (["w"], [], []), (1, "while", 0, 0): ([], [], []), (1, "while", 1): ([], [], []),
            (2,): ([], [], [])})

    def test_scans(self):
        self.check(RAISE_ALL, {"ua": 1, "ub": 2}, {
            (0,): ([], ["u"], []), (0, "scan", "ub", 0): (["ub"], ["u"], []), (0, "scan", "ub", 1): (["ub"], ["u"], [])})
        self.assertEqual(resting_places(RAISE_ALL, {"ua": 1, "ub": 2}, "ub"), [(0, "scan", "ub", 0), (0, "scan", "ub", 1)])

    def test_places_in_the_sources_of_a_scan(self):
        program = (
            read("a", v("x")), ("write", v("ub"), n("a")), ("scan", "k", v("u"), (read("b", v("z")),)), let("c", n("k")),
            ("scan", "k", n("p"), ()),
        )
        self.check(program, {"ua": 1}, {
            (2,): (["x"], ["u"], []), (2, "scan", "ua", 0): (["z"], [], []), (3,): (["x"], ["u"], []),
            (4,): (["x"], [""], ["p"])}, {"p": ""})
        self.assertEqual(resting_places(program, {"ua": 1}, "x", arguments={"p": "q"}), [(0,), (1,), (2,), (3,)])
        self.assertEqual(resting_places(program, {"ua": 1}, "ua", arguments={"p": ""}), [])

    def test_procedures(self):
        program = (
            ("define", "f", ("a",), (read("b", v("y")), ("if", n("a"), (("return", n("b")),), ()))),
            read("a", v("x")), ("call", "c", "f", (n("a"),)), ("write", v("q"), n("c")),
        )
        self.check(program, {"x": 1, "y": 2}, {
            (2,): (["x"], [], []), (2, "call", 1): (["x"], [], []), (2, "call", 1, "then", 0): (["y"], [], []),
            (3,): (["y"], [], [])})
        self.check(program, {"x": 0, "y": 2}, {(3,): (["x"], [], [])})

    def test_given_up_tries(self):
        program = (
            read("a", v("x")), ("try", (read("a", v("y")), write("q", 1), let("b", n("a")), ("refuse", n("b"))),
                                (let("c", n("a")), read("d", v("q")))), let("e", n("b")),
        )
        self.check(program, {"x": 1, "y": 2}, {
            (1, "try", 2): (["y"], [], []), (1, "try", 3): (["y"], [], []), (1, "other", 0): (["x"], [], []),
            (1, "other", 1): (["q"], [], []), (2,): ([], [], [])})
        self.assertEqual(resting_places(program, {}, "y"), [(1, "try", 0), (1, "try", 2), (1, "try", 3)])

    def test_no_steps_there(self):
        wrong_ones = [(), (1,), (True,), (False,), (-1,), (0, 0), (0.0,), ("0",), ((0,),), (None,), ([0],), (0, "scan", "ub", 0)]
        for place in STRANGE + wrong_ones + [0, "", {}, [0], (STRANGE,)]:
            self.assertTrue(lineage(RAISE_ALL, {"ua": 1}, place) is None)
        program = (("try", (), ()), ("define", "f", (), ()), ("if", v(0), (let("a", v(1)),), ()), ("while", v(0), ()))
        for place in ((0,), (1,), (2, "then", 0), (3,), (3, "while", 1)):
            self.assertTrue(lineage(program, {}, place) is None)
        self.assertEqual(lineage(program, {}, (3, "while", 0)), ([], [], []))

    def test_true_is_no_index(self):
        program = (let("a", v(1)), let("b", v(1)))
        self.assertEqual(lineage(program, {}, (1,)), ([], [], []))
        self.assertTrue(lineage(program, {}, (True,)) is None)

    def test_ascending_lists(self):
        program = tuple(read(name, v(name)) for name in "cab") + (("return", ("list",) + tuple(n(name) for name in "cabqp")),)
        self.assertEqual(lineage(program, {}, (3,), arguments={"q": 1, "p": 2}), (["a", "b", "c"], [], ["p", "q"]))
        scans = tuple(("scan", "k", v(p), (let("s", ("list", n("k"), n("s"))),)) for p in ("x", "", "b"))
        told = lineage((let("s", v(0)),) + scans + (("return", n("s")),), {"xa": 1, "b": 2}, (4,))
        self.assertEqual(told, ([], ["", "b", "x"], []))

    def test_each_list_is_new(self):
        for held in lineage(SUM, {}, (2,)):
            held.append(1)
        resting_places(SUM, {}, "x").clear()
        self.assertEqual((lineage(SUM, {}, (2,)), resting_places(SUM, {}, "x")), ((["x", "y"], [], []), [(0,), (2,)]))

    def test_random_programs(self):
        maker = Maker(random.Random(23))
        for turn in range(150):
            program, state, arguments = maker.program(maker.random.randrange(1, 35)), maker.state(), maker.arguments()
            wanted = wanted_lineages(program, state, arguments)
            if len(wanted) < 100:
                for place in wanted:
                    self.assertEqual(lineage(program, state, place, arguments=arguments), wanted[place])
                for key in ("x", "ua", "ub", "zz"):
                    self.assertEqual(resting_places(program, state, key, arguments=arguments), [
                        place for place in wanted if key in wanted[place][0]])


class ThousandStepsTest(unittest.TestCase):
    def test_long_chains(self):
        program = (read("i", v("x")),) + ENDLESS[1:]
        places = [step[0] for step in run(program, {"x": 0}).steps]
        begin = time.process_time()
        self.assertEqual(lineage(program, {"x": 0}, places[-1]), (["x"], [], []))
        self.assertEqual(resting_places(program, {"x": 0}, "x"), [
            place for place in places if place[1:2] != ("while",) or len(place) > 3])
        self.assertTrue(time.process_time() - begin < 5)

    def test_steps_that_rest_on_all_before_them_in_two_ways(self):
        # Each of these steps has two sources, so that there are more ways back than can be gone one by one.
        double = (let("a", ("list", ("size", n("a")), ("size", n("b")))), let("b", ("list", ("size", n("b")), ("size", n("a")))))
        program = (read("a", v("x")), read("b", v("y")), ("while", v(1), double))
        begin = time.process_time()
        self.assertEqual(lineage(program, {}, (2, "while", 300, 1)), (["x", "y"], [], []))
        self.assertEqual(len(resting_places(program, {}, "x")), 2 + 2 * 332)
        self.assertTrue(time.process_time() - begin < 5)

    def test_many_keys(self):
        state = {"u" + str(number): number for number in range(600)}
        program = (let("s", v(0)), ("scan", "k", v("u"), (read("a", n("k")), let("s", add(n("s"), n("a"))))))
        keys = sorted(state)
        begin = time.process_time()
        self.assertEqual(lineage(program, state, (1, "scan", keys[498], 1)), (keys[:499], ["u"], []))
        self.assertEqual(len(resting_places(program, state, keys[0])), 500)
        self.assertTrue(time.process_time() - begin < 5)


class ErrorsTest(unittest.TestCase):
    def check_error(self, error, field, value, *given, **named):
        for call in (lineage, resting_places):
            with self.assertRaises(error) as caught:
                call(*given, **named)
            self.assertTrue(getattr(caught.exception, field) is value)

    def test_each_argument(self):
        for wrong in STRANGE + [[], "", 0]:
            self.check_error(InvalidProgram, "place", (), wrong, {}, "x")
        for wrong in WRONG_STATES + [None]:
            self.check_error(InvalidState, "value", wrong, SUM, wrong, "x")
        for wrong in WRONG_ARGUMENTS:
            self.check_error(InvalidArguments, "value", wrong, SUM, {}, "x", arguments=wrong)

    def test_no_keys(self):
        for wrong in NO_KEYS:
            for arguments in (None, {"a": 1}, 5, {"A": 1}):
                with self.assertRaises(InvalidName) as caught:
                    resting_places(SUM, {}, wrong, arguments=arguments)
                self.assertTrue(caught.exception.value is wrong)

    def test_order(self):
        for last in ("x", 7):
            self.check_error(InvalidProgram, "place", (), 5, 6, last, arguments=8)
            self.check_error(InvalidState, "value", 6, SUM, 6, last, arguments=8)
        with self.assertRaises(InvalidArguments):
            lineage(SUM, {}, 7, arguments=8)

    def test_by_name(self):
        self.assertEqual(lineage(place=(2,), state={}, program=SUM, arguments=None), (["x", "y"], [], []))
        self.assertEqual(resting_places(key="y", state={}, program=SUM, arguments={}), [(1,), (2,)])
        self.assertRaises(TypeError, lineage, SUM, {}, (2,), {})

    def test_nothing_is_changed(self):
        state, arguments = {"y": 1, "x": 2}, {"b": 1, "a": 2}
        lineage(SUM, state, (2,), arguments=arguments)
        resting_places(SUM, state, "x", arguments=arguments)
        self.assertEqual((state, arguments), ({"y": 1, "x": 2}, {"b": 1, "a": 2}))


if __name__ == "__main__":
    unittest.main()
