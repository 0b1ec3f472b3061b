"""Objects that are no values, keys, names, states or expressions."""


class Hostile:
    """An object that cannot be compared, hashed, counted, tested or written out."""

    def refuse(self, *told):
        raise RuntimeError("not to be called")

    __eq__ = __ne__ = __lt__ = __le__ = __gt__ = __ge__ = refuse
    __hash__ = __bool__ = __len__ = __iter__ = __contains__ = __getitem__ = refuse
    __repr__ = __str__ = __int__ = __index__ = __add__ = __neg__ = __abs__ = refuse


def self_containing_list():
    """Return a list that holds itself."""
    held = []
    held.append(held)
    return held


STRANGE = [
    None, True, False, 1.5, 1.0, float("nan"), float("inf"), 1j, b"a", b"", bytearray(b"a"), memoryview(b"a"),
    [], [1], ["value", 1], self_containing_list(), set(), {1}, frozenset(), range(3), slice(1), iter([1]),
    object(), int, str, tuple, len, Hostile, Hostile(), Ellipsis, NotImplemented, ValueError("x"), (k for k in "ab"),
    lambda: 1,
]
