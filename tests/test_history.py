import random
import time
import unittest

from mendedruns.desks import Desk
from mendedruns.errors import InvalidArguments, InvalidProgram, InvalidState, InvalidTrace, UnknownMoment
from mendedruns.history import changing_moments, first_change, trace_at
from mendedruns.mending import count_done
from mendedruns.running import run
from mendedruns.stores import Store
from tests.building import ENDLESS, RAISE_ALL, SUM, Maker, add, let, n, read, v, write
from tests.reference import Reference
from tests.strange import STRANGE
from tests.test_commuting import effective_run
from tests.test_running import WRONG_ARGUMENTS
from tests.test_stores import NO_MOMENTS, STATES, three, wrote
from tests.test_traces import NO_COUNTS

LOOK = (read("a", v("x")), ("return", n("a")))
LOOK_AT_ARGUMENT = (read("a", n("k")), ("return", n("a")))
WRONG_PROGRAM = (let("a", v(1)), ("if", v(1), (), (5,)))


def store_with(state, *changes):
    """Return a store with a moment for each of these dicts of what is written, or deleted if it is None."""
    store = Store(state)
    for change in changes:
        store.commit(wrote(**change))
    return store


class TraceAtTest(unittest.TestCase):
    def test_each_moment(self):
        store = three()
        for moment in range(4):
            self.assertTrue(trace_at(store, SUM, moment) == run(SUM, STATES[moment]))
            self.assertEqual(trace_at(store, LOOK, moment).ending, ("returned", STATES[moment]["x"]))

    def test_arguments(self):
        store = three()
        for key, ending in (("x", 5), ("y", 2), ("z", 1), ("q", "")):
            told = trace_at(store, LOOK_AT_ARGUMENT, 1, arguments={"k": key})
            self.assertEqual((told.ending, told), (("returned", ending), run(LOOK_AT_ARGUMENT, STATES[1], arguments={"k": key})))
        self.assertEqual(trace_at(store, LOOK_AT_ARGUMENT, 1).ending, ("refused", "name"))
        self.assertEqual(trace_at(store, LOOK_AT_ARGUMENT, 1, arguments={}).ending, ("refused", "name"))

    def test_moments_that_are_kept(self):
        store = three()
        store.drop(2)
        for moment in (2, 3):
            self.assertTrue(trace_at(store, SUM, moment) == run(SUM, STATES[moment]))
        for moment in (0, 1):
            with self.assertRaises(UnknownMoment) as caught:
                trace_at(store, SUM, moment)
            self.assertEqual(caught.exception.value, moment)

    def test_stores_of_desks(self):
        desk = Desk({"x": 1})
        desk.begin("one", (write("x", 2),))
        desk.commit("one")
        self.assertEqual([trace_at(desk.store, LOOK, moment).ending[1] for moment in range(2)], [1, 2])

    def test_by_name(self):
        store = three()
        told = trace_at(moment=0, arguments={"k": "x"}, program=LOOK_AT_ARGUMENT, store=store)
        self.assertEqual(told.ending, ("returned", 1))
        self.assertRaises(TypeError, trace_at, store, LOOK, 0, {})
        self.assertTrue(store == three())


class ChangingMomentsTest(unittest.TestCase):
    def check(self, store, program, wanted, arguments=None):
        self.assertEqual(changing_moments(store, program, arguments=arguments), wanted)

    def test_values_returned(self):
        store = store_with({"x": 1}, {"x": 2}, {"y": 1}, {"x": 2}, {"x": None}, {}, {"x": ""}, {"x": 1})
        self.check(store, LOOK, [1, 4, 7])
        self.check(store, LOOK_AT_ARGUMENT, [2], {"k": "y"})
        self.check(store, LOOK_AT_ARGUMENT, [], {"k": "q"})
        self.check(store, LOOK_AT_ARGUMENT, [])

    def test_only_endings_count(self):
        store = store_with({"x": 1}, {"x": 2}, {"x": 3})
        self.check(store, (read("a", v("x")), ("write", v("y"), n("a"))), [])
        self.check(store, (read("a", v("x")), ("return", ("less", n("a"), v(3)))), [2])
        self.check(store, (), [])

    def test_back_and_forth(self):
        self.check(store_with({"x": 1}, {"x": 2}, {"x": 1}, {"x": 2}), LOOK, [1, 2, 3])

    def test_refusals(self):
        program = (read("a", v("x")), let("b", ("divide", v(6), n("a"))), ("return", n("b")))
        self.check(store_with({}, {"x": ""}, {"x": 0}, {"x": 2}, {"x": 3}, {"x": "q"}, {"x": ()}), program, [2, 3, 4, 5])

    def test_returned_and_refused_with_the_same_value(self):
        program = (read("a", v("x")), ("if", n("a"), (("return", v("q")),), (("refuse", v("q")),)))
        self.check(store_with({"x": 0}, {"x": 1}, {"x": 2}, {"x": 0}), program, [1, 3])

    def test_scans(self):
        program = (let("c", v(0)), ("scan", "k", v("u"), (let("c", add(n("c"), v(1))),)), ("return", n("c")))
        self.check(store_with({}, {"ua": 1}, {"ua": 2}, {"b": 1}, {"ua": None, "u": 1}, {"uu": 1}), program, [1, 5])

    def test_keys_that_are_read_only_at_some_moments(self):
        program = (read("a", v("x")), read("b", n("a")), ("return", n("b")))
        store = store_with({"x": "p", "p": 1, "q": 5}, {"q": 2}, {"x": "q"}, {"p": 3}, {"q": 4}, {"q": 3, "x": "p"}, {"q": 9})
        self.check(store, program, [2, 4, 5])

    def test_one_kept_moment(self):
        store = three()
        store.drop(3)
        self.check(Store({}), LOOK, [])
        self.check(store, LOOK, [])

    def test_earliest_kept_moment(self):
        store = store_with({"x": 1}, {"x": 2}, {"x": 3}, {"x": 3}, {"x": 4})
        for dropped, wanted in ((0, [1, 2, 4]), (1, [2, 4]), (2, [4]), (3, [4]), (4, [])):
            store.drop(dropped)
            self.check(store, LOOK, wanted)

    def test_endless_runs(self):
        program = (read("i", v("x")), ("while", n("i"), (let("i", n("i")),)), ("return", n("i")))
        self.check(store_with({"x": 0}, {"x": 1}, {"x": 2}, {"x": 0}), program, [1, 3])

    def test_many_moments(self):
        store = store_with({}, *[{"q": i} for i in range(2000)], {"x": 1})
        begin = time.process_time()
        self.check(store, LOOK + ENDLESS, [2001])
        self.check(store, (read("i", v("x")),) + ENDLESS, [])
        self.assertTrue(time.process_time() - begin < 2)

    def test_the_list_is_new(self):
        store = three()
        changing_moments(store, LOOK).clear()
        self.assertEqual(changing_moments(arguments={}, program=LOOK, store=store), [1])
        self.assertTrue(store == three())
        self.assertRaises(TypeError, changing_moments, store, LOOK, {})


class FirstChangeTest(unittest.TestCase):
    def check(self, store, program, old, wanted, arguments=None):
        told = first_change(store, program, old, arguments=arguments)
        self.assertTrue(told is None if wanted is None else told == wanted, told)

    def test_first_moment_with_another_input(self):
        store = store_with({"x": 1}, {"y": 2}, {"x": 1}, {"x": 2}, {"x": 1})
        self.check(store, LOOK, run(LOOK, {"x": 1}), 3)
        self.check(store, LOOK, run(LOOK, {"x": 2}), 0)
        self.check(store_with({"x": 1}, {"y": 2}), LOOK, run(LOOK, {"x": 1}), None)

    def test_dropped_moments(self):
        store = store_with({"x": 1}, {"x": 2}, {"x": 1}, {"x": 3}, {"x": 1})
        for dropped, wanted in ((0, 1), (1, 1), (2, 3), (3, 3), (4, None)):
            store.drop(dropped)
            self.check(store, LOOK, run(LOOK, {"x": 1}), wanted)

    def test_steps_done_though_the_ending_stays(self):
        program = (read("a", v("x")), ("return", v(1)))
        store = store_with({"x": 1}, {"x": 2})
        self.check(store, program, run(program, {"x": 1}), 1)
        self.assertEqual(changing_moments(store, program), [])

    def test_beginnings(self):
        store = store_with({"x": 1, "y": 1}, {"x": 2}, {"y": 2})
        whole = run(SUM, {"x": 1, "y": 1})
        for count in range(4):
            self.check(store, SUM, whole.first(count), 0)
        self.check(store, SUM, whole, 1)
        program = (read("a", v("x")), ("if", ("equal", n("a"), v(2)), (read("b", v("y")),), ()))
        self.check(store, program, run(program, {"x": 1}), 1)
        # A beginning may have all that there is to do at some moments.
        program = (read("a", v("x")), ("if", ("less", n("a"), v(2)), (("refuse", v(1)),), ()), read("b", v("y")))
        self.check(store, program, run(program, {"x": 2, "y": 5}), 0)

    def test_fewer_steps_are_no_steps_done(self):
        program = (("try", (read("a", v("x")), ("each", "i", ("list", n("a")), (("if", v(0), (), ()),))), ()),)
        store = store_with({"x": 1}, {"y": 1})
        self.check(store, program, run(program, {"x": 1}), None)
        shorter = (("scan", "k", v("u"), (let("a", v(1)),)),)
        self.check(store_with({"ua": 1}, {"ua": None}), shorter, run(shorter, {"ua": 1}), 1)
        self.check(Store({}), (), run((), {}), None)

    def test_arguments(self):
        store = store_with({"x": 1, "y": 2}, {"y": 3})
        old = run(LOOK_AT_ARGUMENT, {"y": 2}, arguments={"k": "y"})
        self.check(store, LOOK_AT_ARGUMENT, old, 1, {"k": "y"})
        self.check(store, LOOK_AT_ARGUMENT, old, 0, {"k": "x"})
        self.check(store, LOOK_AT_ARGUMENT, old, 0)
        self.check(store, LOOK_AT_ARGUMENT, run(LOOK_AT_ARGUMENT, {}), None)

    def test_scans(self):
        store = store_with({"ua": 1}, {"x": 1}, {"b": 1}, {"ua": 2}, {"ub": 1})
        self.check(store, RAISE_ALL, run(RAISE_ALL, {"ua": 1}), 3)
        program = (("scan", "k", v("u"), ()),)
        self.check(store, program, run(program, {"ua": 7}), 4)

    def test_many_moments(self):
        store = store_with({}, *[{"q": i} for i in range(2000)], {"x": 1})
        begin = time.process_time()
        self.check(store, LOOK, run(LOOK, {}), 2001)
        self.check(store, ENDLESS, run(ENDLESS, {}), None)
        self.assertTrue(time.process_time() - begin < 2)

    def test_by_name(self):
        store = three()
        old = run(LOOK, {"x": 1})
        self.assertEqual(first_change(arguments=None, old=old, program=LOOK, store=store), 1)
        self.assertRaises(TypeError, first_change, store, LOOK, old, {})
        self.assertTrue(store == three() and old == run(LOOK, {"x": 1}))


class RandomTest(unittest.TestCase):
    def test_random_stores(self):
        maker = Maker(random.Random(89))
        changes, firsts = 0, []
        for turn in range(20):
            store = Store(maker.state())
            for number in range(12):
                keys = maker.state()
                store.commit(wrote(**{key: keys.get(key) for key in maker.random.sample(["x", "y", "ua", "ub", "ud"], 2)}))
            store.drop(maker.random.randrange(5))
            for number in range(6):
                program, arguments = effective_run(maker, store.now)
                program += (("return", n("a")),)
                endings = [Reference(program, store[moment], arguments).ending for moment in store.kept]
                wanted = [moment for moment, one, other in zip(store.kept[1:], endings, endings[1:]) if one != other]
                self.assertEqual(changing_moments(store, program, arguments=arguments), wanted)
                changes += len(wanted)
                for moment, ending in zip(store.kept, endings):
                    self.assertEqual(trace_at(store, program, moment, arguments=arguments).ending, ending)
                for moment in store.kept[::3]:
                    old = trace_at(store, program, moment, arguments=arguments)
                    old = old.first(maker.random.choice([len(old), len(old), 2]))
                    done = [count_done(program, old, store[moment], arguments=arguments) > 0 for moment in store.kept]
                    wanted = store.kept[done.index(True)] if True in done else None
                    self.assertEqual(first_change(store, program, old, arguments=arguments), wanted)
                    firsts.append(wanted)
        self.assertTrue(changes > 30 and len({repr(first) for first in firsts}) > 8, changes)


class ErrorsTest(unittest.TestCase):
    def check_error(self, error, field, value, call):
        with self.assertRaises(error) as caught:
            call()
        found = getattr(caught.exception, field)
        self.assertTrue(found is value or isinstance(value, tuple) and found == value)

    def test_no_stores(self):
        for wrong in STRANGE + [0, "", {}, (), {"x": 1}, Desk({})]:
            for program, last, arguments in ((LOOK, 0, None), (5, 6, 7), (LOOK, 6, None), (WRONG_PROGRAM, run(LOOK, {}), 7)):
                self.check_error(InvalidState, "value", wrong, lambda: trace_at(wrong, program, last, arguments=arguments))
                self.check_error(InvalidState, "value", wrong, lambda: changing_moments(wrong, program, arguments=arguments))
                self.check_error(InvalidState, "value", wrong, lambda: first_change(wrong, program, last, arguments=arguments))

    def test_no_programs(self):
        store = three()
        for wrong, place in [(value, ()) for value in STRANGE] + [(WRONG_PROGRAM, (1, "else", 0)), (5, ())]:
            for last, arguments in ((0, None), (9, 5), (run(LOOK, {}), 5), (None, {"A": 1})):
                self.check_error(InvalidProgram, "place", place, lambda: trace_at(store, wrong, last, arguments=arguments))
                self.check_error(InvalidProgram, "place", place, lambda: changing_moments(store, wrong, arguments=arguments))
                self.check_error(InvalidProgram, "place", place, lambda: first_change(store, wrong, last, arguments=arguments))

    def test_no_moments(self):
        store = three()
        for wrong in NO_MOMENTS + NO_COUNTS + [True, False, 4, -1]:
            for arguments in (None, {}, 5):
                self.check_error(UnknownMoment, "value", wrong, lambda: trace_at(store, LOOK, wrong, arguments=arguments))
        self.assertTrue(store == three())

    def test_no_traces(self):
        store = three()
        for wrong in STRANGE + [0, "", {}, ()]:
            for arguments in (None, {}, 5):
                self.check_error(InvalidTrace, "value", wrong, lambda: first_change(store, LOOK, wrong, arguments=arguments))

    def test_no_arguments(self):
        store = three()
        for wrong in WRONG_ARGUMENTS:
            self.check_error(InvalidArguments, "value", wrong, lambda: trace_at(store, LOOK, 0, arguments=wrong))
            self.check_error(InvalidArguments, "value", wrong, lambda: changing_moments(store, LOOK, arguments=wrong))
            self.check_error(InvalidArguments, "value", wrong, lambda: first_change(store, LOOK, run(LOOK, {}), arguments=wrong))
        self.assertTrue(store == three())


if __name__ == "__main__":
    unittest.main()
