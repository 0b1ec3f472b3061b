import itertools
import random
import time
import unittest

from mendedruns.desks import Desk, preview
from mendedruns.errors import InvalidState, LimitExceeded, UnknownName
from mendedruns.orders import best_order, total_done
from mendedruns.running import run
from tests.building import SUM, Maker, let, n, read, steps_program, v, write
from tests.strange import STRANGE
from tests.test_commuting import effective_run
from tests.test_desks import NO_NAMES, NOT_BELOW_ZERO, RAISE, Case, busy_desk

READ_X = (read("a", v("x")), ("return", n("a")))
WRITE_X = (write("x", 7),)


def desk_with(state, *runs, constraints=()):
    """Return a desk with open runs for tuples (name, program), advanced to their ends."""
    desk = Desk(state, constraints=constraints)
    for name, program in runs:
        desk.begin(name, program)
        desk.advance(name, 1000)
    return desk


def wanted_order(desk):
    """Return what best_order has to, found by trying all orders."""
    return min((preview(desk, list(names))[2], list(names)) for names in itertools.permutations(desk.active))


class TotalDoneTest(Case):
    def test_totals(self):
        desk = desk_with({"x": 1}, ("one", READ_X), ("two", WRITE_X))
        desk.begin("three", RAISE)
        for names, done in (([], 0), (["one"], 0), (["two"], 0), (["two", "one"], 2), (["one", "two"], 0), (["three"], 3), (
                ["three", "one", "two"], 5), (["one", "two", "three"], 3)):
            self.assertEqual((total_done(desk, names), total_done(desk, names)), (done, preview(desk, names)[2]))

    def test_views_and_constraints_do_not_count(self):
        desk = desk_with({"x": 1}, ("one", READ_X), ("two", WRITE_X), constraints=(NOT_BELOW_ZERO,))
        desk.watch("seen", READ_X)
        self.assertEqual(total_done(names=["two", "one"], desk=desk), 2)

    def test_the_desk_stays_as_it_was(self):
        desk, names = busy_desk(), ["five", "three"]
        total_done(desk, names)
        self.assertTrue(desk == busy_desk())
        self.assertEqual(names, ["five", "three"])

    def test_no_desks(self):
        for wrong in STRANGE + [0, "", {}, ()]:
            for names in ([], ["one"], 5):
                self.check_error(InvalidState, "value", wrong, lambda: total_done(wrong, names))

    def test_no_names(self):
        desk = busy_desk()
        for wrong in [value for value in STRANGE if not isinstance(value, list)] + [("three",), "three", {"three": 1}]:
            self.check_error(UnknownName, "name", wrong, lambda: total_done(desk, wrong), desk)
        for wrong in NO_NAMES + ["one", "four", "seen", "three"]:
            self.check_error(UnknownName, "name", wrong, lambda: total_done(desk, ["three", wrong]), desk)


class BestOrderTest(Case):
    def test_no_open_runs(self):
        self.assertEqual(best_order(Desk({})), (0, []))
        desk = desk_with({"x": 1}, ("one", READ_X), ("two", READ_X))
        desk.commit("one")
        desk.abort("two")
        self.assertEqual(best_order(desk), (0, []))

    def test_one_open_run(self):
        self.assertEqual(best_order(desk_with({"x": 1}, ("one", READ_X))), (0, ["one"]))
        desk = Desk({"x": 1})
        desk.begin("one", READ_X)
        self.assertEqual(best_order(desk), (2, ["one"]))

    def test_readers_ahead_of_writers(self):
        desk = desk_with({"x": 1}, ("a", WRITE_X), ("b", READ_X), ("c", READ_X))
        self.assertEqual(best_order(desk), (0, ["b", "c", "a"]))
        desk.begin("d", (write("y", 1),))
        self.assertEqual(best_order(desk), (1, ["b", "c", "a", "d"]))

    def test_least_of_several(self):
        runs = [(name, READ_X) for name in ("bb", "b", "ba", "a", "aaa")]
        self.assertEqual(best_order(desk_with({}, *runs)), (0, ["a", "aaa", "b", "ba", "bb"]))
        desk = desk_with({"x": 1}, ("c", RAISE), ("b", RAISE), ("a", RAISE))
        self.assertEqual(best_order(desk), (6, ["a", "b", "c"]))

    def test_fewer_steps_ahead_of_lesser_names(self):
        # Whichever of the two is committed second is mended.
        desk = desk_with({"x": 1}, ("a", RAISE), ("z", RAISE[:1] + (let("b", n("a")),) * 3 + RAISE[1:]))
        self.assertEqual(best_order(desk), (3, ["z", "a"]))

    def test_values_that_come_back(self):
        desk = desk_with({"x": 1}, ("a", (write("x", 2),)), ("b", READ_X * 3), ("c", (write("x", 1), read("a", v("y")))), ("d", (
            read("a", v("x")), write("y", 5))))
        self.assertEqual(best_order(desk), wanted_order(desk))

    def test_runs_that_would_be_broken(self):
        # Behind the broken commit of b, nothing has changed for a.
        desk = desk_with({"x": 1}, ("a", READ_X), ("b", (write("x", -1),)), constraints=(NOT_BELOW_ZERO,))
        self.assertEqual(best_order(desk), (0, ["a", "b"]))
        self.assertEqual(total_done(desk, ["b", "a"]), 0)
        desk = desk_with({"x": 1, "y": 1}, ("a", (write("x", -1),)), ("b", (write("x", 5),)), ("c", READ_X), constraints=(
            NOT_BELOW_ZERO,))
        self.assertEqual(best_order(desk), (0, ["a", "c", "b"]))

    def test_views_and_constraints_do_not_count(self):
        desk = desk_with({"x": 1}, ("a", WRITE_X), ("b", READ_X), constraints=(NOT_BELOW_ZERO,))
        desk.watch("seen", READ_X)
        desk.watch("a", SUM)
        self.assertEqual(best_order(desk), (0, ["b", "a"]))
        self.assertEqual(list(desk.views), ["seen", "a"])

    def test_the_desk_stays_as_it_was(self):
        desk = busy_desk()
        count, names = best_order(desk=desk)
        self.assertEqual((count, names), wanted_order(desk))
        names.clear()
        self.assertTrue(desk == busy_desk())

    def test_five_runs_at_most(self):
        desk = desk_with({"x": 1}, *[(name, RAISE) for name in ("e", "d", "c", "b", "a")])
        self.assertEqual(best_order(desk), (12, ["a", "b", "c", "d", "e"]))
        for name, count in (("f", 6), ("g", 7)):
            desk.begin(name, RAISE)
            self.check_error(LimitExceeded, "count", count, lambda: best_order(desk), desk)
        desk.abort("f")
        desk.commit("g")
        self.assertEqual(best_order(desk), wanted_order(desk))

    def test_long_runs(self):
        desk = Desk({"k": 1})
        for name in ("e", "d", "c", "b", "a"):
            desk.begin(name, steps_program(400))
            desk.advance(name, 100)
        begin = time.process_time()
        self.assertEqual(best_order(desk), (1500, ["a", "b", "c", "d", "e"]))
        self.assertTrue(time.process_time() - begin < 10)

    def test_random_desks(self):
        maker = Maker(random.Random(97))
        others = 0
        for turn in range(60):
            desk = Desk(maker.state())
            for name in ("c", "a", "d", "b"):
                program, arguments = effective_run(maker, desk.state())
                desk.begin(name, program, arguments=arguments)
                desk.advance(name, maker.random.choice([3, 50, 1000]))
                if maker.random.random() < 0.3:
                    desk.begin("q" + name, maker.program(8), arguments=maker.arguments())
                    desk.commit("q" + name)
            wanted = wanted_order(desk)
            self.assertEqual(best_order(desk), wanted)
            others += wanted[1] != sorted(wanted[1])
        self.assertTrue(others > 20, others)

    def test_no_desks(self):
        for wrong in STRANGE + [0, "", {}, (), run((), {})]:
            self.check_error(InvalidState, "value", wrong, lambda: best_order(wrong))


if __name__ == "__main__":
    unittest.main()
