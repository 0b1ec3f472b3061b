import random
import unittest

from mendedruns.errors import InvalidCount, InvalidName, InvalidState, InvalidTrace, UnknownMoment
from mendedruns.mending import apply_effect, mend
from mendedruns.running import run
from mendedruns.stores import Store
from tests.building import ENDLESS, SUM, Maker, let, v, write
from tests.strange import STRANGE
from tests.test_lineage import NO_KEYS
from tests.test_running import WRONG_STATES
from tests.test_traces import NO_COUNTS

NOTHING = run((), {})
NO_MOMENTS = [value for value in STRANGE] + [-1, 4, 10 ** 100, "", "0", (), (0,), {}, [0], 1.0]


def wrote(**values):
    """Return a trace that writes these values, and deletes the keys with None."""
    return run(tuple(("delete", v(key)) if values[key] is None else write(key, values[key]) for key in values), {})


def three():
    """Return a store at the moment 3."""
    store = Store({"x": 1, "y": 2})
    for trace in (wrote(x=5, z=1), wrote(y=None), wrote(x=5, y=3)):
        store.commit(trace)
    return store


STATES = [{"x": 1, "y": 2}, {"x": 5, "y": 2, "z": 1}, {"x": 5, "z": 1}, {"x": 5, "y": 3, "z": 1}]


class StoreTest(unittest.TestCase):
    def check_error(self, error, value, call):
        with self.assertRaises(error) as caught:
            call()
        self.assertTrue(caught.exception.value is value)

    def test_example(self):
        store = Store({"x": 1})
        moment = store.commit(run(SUM, store.now))
        self.assertEqual((moment, store.changed("z"), store[0]), (1, [], {"x": 1}))

    def test_new_store(self):
        store = Store({"x": 1, "y": (2,)})
        self.assertEqual((store.moment, store.kept, store.now, store[0], len(store)), (
            0, [0], {"x": 1, "y": (2,)}, {"x": 1, "y": (2,)}, 2))
        self.assertEqual((Store({}).now, len(Store({}))), ({}, 0))
        self.assertEqual(Store(state={"x": 1}).now, {"x": 1})

    def test_properties(self):
        for name in ("moment", "kept", "now"):
            self.assertTrue(isinstance(getattr(Store, name), property))

    def test_commits(self):
        store = three()
        self.assertEqual((store.moment, store.kept, store.now, len(store)), (3, [0, 1, 2, 3], STATES[3], 3))
        self.assertEqual([store[moment] for moment in range(4)], STATES)

    def test_commit_returns_the_moment(self):
        store = Store({})
        self.assertEqual([store.commit(wrote(x=1)), store.commit(NOTHING), store.commit(trace=wrote(x=None))], [1, 2, 3])

    def test_commits_without_an_effect(self):
        store = Store({"x": 1})
        for trace in (NOTHING, run((write("x", 2), ("refuse", v(1))), {}), run(ENDLESS, {}), wrote(x=2, y=1).first(1)):
            store.commit(trace)
            self.assertEqual(store.now, {"x": 1})
        self.assertEqual((store.moment, store.changed("x")), (4, []))

    def test_deletions_of_keys_that_are_not_there(self):
        store = Store({})
        store.commit(wrote(x=None))
        self.assertEqual((store.now, store.changed("x")), ({}, []))

    def test_moments_that_are_kept(self):
        store = three()
        store.drop(2)
        for moment in (2, 3):
            self.assertTrue((moment in store) is True)
        for moment in NO_MOMENTS + [0, 1, True, False]:
            self.assertTrue((moment in store) is False)

    def test_indexing(self):
        store = three()
        for moment in NO_MOMENTS + [True, False]:
            self.check_error(UnknownMoment, moment, lambda: store[moment])
        store.drop(1)
        self.check_error(UnknownMoment, 0, lambda: store[0])
        self.assertEqual([store[moment] for moment in (1, 2, 3)], STATES[1:])

    def test_not_iterated(self):
        for call in (list, iter, tuple):
            self.assertRaises(TypeError, call, three())

    def test_drop_none_some_and_all_earlier_ones(self):
        for moment in range(4):
            store = three()
            self.assertEqual(store.drop(moment), moment)
            self.assertEqual((store.kept, store.moment, store.now), (list(range(moment, 4)), 3, STATES[3]))
            self.assertEqual([store[kept] for kept in store.kept], STATES[moment:])
            self.assertEqual([store.drop(again) for again in range(moment + 1)], [0] * (moment + 1))
            self.assertEqual(store.kept, list(range(moment, 4)))
            self.assertEqual(store.drop(moment=3), 3 - moment)
            self.assertEqual((store.kept, store[3]), ([3], STATES[3]))

    def test_commits_behind_drops(self):
        store = three()
        store.drop(3)
        self.assertEqual(store.commit(wrote(x=None)), 4)
        self.assertEqual((store.kept, store[3], store[4]), ([3, 4], STATES[3], {"y": 3, "z": 1}))
        self.assertEqual(store.changed("x"), [4])

    def test_drop_what_is_none_or_later(self):
        store = three()
        for wrong in NO_COUNTS:
            self.check_error(InvalidCount, wrong, lambda: store.drop(wrong))
        for later in (4, 5, 10 ** 100):
            self.check_error(UnknownMoment, later, lambda: store.drop(later))
        self.assertEqual(store, three())

    def test_changed(self):
        store = three()
        self.assertEqual([store.changed(key) for key in ("x", "y", "z", "q")], [[1], [2, 3], [1], []])
        self.assertEqual(store.changed(key="x"), [1])
        store.drop(1)
        self.assertEqual([store.changed(key) for key in ("x", "y", "z")], [[], [2, 3], []])
        store.drop(3)
        self.assertEqual([store.changed(key) for key in ("x", "y", "z")], [[], [], []])

    def test_changed_values_are_compared_as_values(self):
        store = Store({"x": 1})
        for trace in (wrote(x=1), wrote(x="1"), wrote(x=(1,)), wrote(x=(1,)), wrote(x=""), wrote(x=None), wrote(x=None)):
            store.commit(trace)
        self.assertEqual(store.changed("x"), [2, 3, 5, 6])

    def test_changed_and_no_key(self):
        for wrong in NO_KEYS:
            self.check_error(InvalidName, wrong, lambda: three().changed(wrong))

    def test_equality(self):
        self.assertTrue(three() == three() and not three() != three())
        self.assertTrue(Store({"a": 1, "b": 2}) == Store({"b": 2, "a": 1}))
        others = [Store(STATES[3]), Store({"x": 1, "y": 2}), Store({})] + [three() for turn in range(6)]
        for moment in (1, 2, 3):
            others[2 + moment].drop(moment)
        others[6].commit(NOTHING)
        for first, one in enumerate(others):
            for second, other in enumerate(others):
                same = first == second or {first, second} == {7, 8}
                self.assertEqual((one == other, one != other), (same, not same), (first, second))

    def test_only_kept_states_count(self):
        one, other = Store({"x": 1}), Store({"x": 2})
        one.commit(wrote(x=3))
        other.commit(wrote(x=3, y=None))
        self.assertFalse(one == other)
        one.drop(1)
        other.drop(1)
        self.assertTrue(one == other)

    def test_states_count_and_not_how_they_came(self):
        one, other = Store({"x": 1}), Store({"x": 1})
        one.commit(wrote(x=1, y=None, z=2))
        other.commit(wrote(z=2))
        self.assertTrue(one == other)

    def test_last_state_differs(self):
        one, other = Store({"x": 1}), Store({"x": 1})
        one.commit(wrote(x=2))
        other.commit(wrote(x=3))
        self.assertFalse(one == other)

    def test_no_stores(self):
        store = Store({"x": 1})
        for other in STRANGE + [{"x": 1}, store.now, 0, "", ()]:
            self.assertTrue(store != other)
            self.assertFalse(store == other)

    def test_given_and_returned_dicts_are_copies(self):
        state = {"x": 1}
        store = Store(state)
        state["x"] = 2
        for held in (store.now, store[0]):
            held["x"] = 3
            held["y"] = 4
        store.kept.append(7)
        trace = wrote(x=5, y=6)
        store.commit(trace)
        trace.effect["x"] = 9
        for held in (store.now, store[1], store[0]):
            held.clear()
        self.assertEqual((store[0], store[1], store.now, store.kept), ({"x": 1}, {"x": 5, "y": 6}, {"x": 5, "y": 6}, [0, 1]))
        store.changed("x").append(5)
        self.assertEqual(store.changed("x"), [1])

    def test_dropped_states_and_copies(self):
        store = three()
        store.drop(2)
        store[2].clear()
        store.now.clear()
        self.assertEqual((store[2], store.now), (STATES[2], STATES[3]))

    def test_errors(self):
        for wrong in WRONG_STATES + [None]:
            self.check_error(InvalidState, wrong, lambda: Store(wrong))
        store = three()
        for wrong in STRANGE + [0, 1, "", {}, (), [], {"x": 1}, mend((), NOTHING, {})]:
            self.check_error(InvalidTrace, wrong, lambda: store.commit(wrong))
        self.assertEqual(store, three())

    def test_many_moments(self):
        store = Store({"u" + str(number): number for number in range(20000)})
        for number in range(300):
            store.commit(wrote(x=number))
        self.assertEqual((store[100]["x"], len(store[0]), len(store), store.changed("x")), (99, 20000, 20001, list(range(1, 301))))

    def test_random_histories(self):
        maker = Maker(random.Random(31))
        for turn in range(60):
            states = [maker.state()]
            store, first = Store(states[0]), 0
            for commit in range(12):
                trace = run(maker.program(12), states[-1], arguments=maker.arguments())
                states.append(apply_effect(states[-1], trace))
                self.assertEqual(store.commit(trace), commit + 1)
                if maker.random.random() < 0.2:
                    moment = maker.random.randrange(len(states))
                    self.assertEqual(store.drop(moment), max(0, moment - first))
                    first = max(first, moment)
                self.assertEqual([store[moment] for moment in store.kept], states[first:])
            for key in ("x", "ua", "ub"):
                self.assertEqual(store.changed(key), [
                    moment for moment in range(first + 1, 13) if states[moment].get(key) != states[moment - 1].get(key)])


if __name__ == "__main__":
    unittest.main()
