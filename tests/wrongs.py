"""Wrong programs, kept programs, inputs and numbers, and right ones at the edges, for the tests."""

from tests.samples import NO_NUMBERS, NO_TUPLES

MILLION = 1000000

# No instructions of a program for two books that has three instructions.
NO_INSTRUCTIONS = NO_TUPLES + [
    (),
    ("get",),
    ("get", 2),
    ("get", -1),
    ("get", 0, 0),
    ("plus", 2),
    ("minus", 2),
    ("set", 2),
    ("set",),
    ("put",),
    ("put", MILLION + 1),
    ("put", -MILLION - 1),
    ("put", 0, 0),
    ("say", 0),
    ("say", None),
    ("ask", 0),
    ("stop", 0),
    ("zero",),
    ("zero", 4),
    ("zero", -1),
    ("zero", 0, 0),
    ("go",),
    ("go", 4),
    ("go", -1),
    ("jump", 0),
    ("Get", 0),
    ("get ", 0),
    ("", 0),
    (0, "get"),
    (None, 0),
    (True, 0),
    (("get",), 0),
    (["get"], 0),
    ({}, 0),
    ["get", 0],
    ["say"],
    "say",
    "get 0",
    {"get": 0},
] + [(word, value) for word in ("get", "plus", "minus", "set", "put", "zero", "go") for value in NO_NUMBERS]

SLIDES = [("slide", 0, 1), ("slide", 1, 0), ("slide", 0, 0), ("slide", 2, 0)]

# No slides of a kept program for three places.
NO_SLIDES = [
    ("slide",),
    ("slide", 0),
    ("slide", 0, 1, 2),
    ("slide", 0, 3),
    ("slide", 3, 0),
    ("slide", -1, 0),
    ("slide", 0, -1),
    ("slide", (0, 1)),
    ("slides", 0, 1),
    (None, 0, 1),
    (["slide"], 0, 1),
    ["slide", 0, 1],
    "slide 0 1",
] + [("slide", 0, value) for value in NO_NUMBERS] + [("slide", value, 0) for value in NO_NUMBERS]

SAY = ("say",)

# Each with the index that BadProgram has for it; books are two.
WRONG_EITHER_PROGRAMS = [(value, None) for value in NO_TUPLES + [(), [SAY], {0: SAY}, "say"]] + [
    ((value, SAY, SAY), 0) for value in NO_INSTRUCTIONS] + [
    ((SAY, SAY, value), 2) for value in NO_INSTRUCTIONS] + [
    ((SAY, ("get", True), ("get", 9)), 1),
    ((("zero", 2),), 0),
    ((("say"),), 0),
    ((("zero", 3), ("go", 3)), 0),
]

WRONG_PROGRAMS = WRONG_EITHER_PROGRAMS + [
    ((SAY,) * 21, None),
    ((None,) * 21, None),
    ((SAY,) * 20 + (None,), None),
    ((SAY,) * 19 + (None,), 19),
    ((SAY,) * 19 + (("go", 21),), 19),
] + [((SAY, slide), 1) for slide in SLIDES + NO_SLIDES]

WRONG_KEPT = WRONG_EITHER_PROGRAMS + [
    ((SAY,) * 6001, None),
    ((SAY,) * 5999 + (("go", 6001),), 5999),
] + [((SAY, slide), 1) for slide in NO_SLIDES]

# Right for two books; each is a program.
RIGHT_PROGRAMS = [
    (("stop",),),
    (("go", 0),),
    (("go", 1),),
    (("zero", 1),),
    (("put", MILLION),),
    (("put", -MILLION),),
    (("get", 0), ("get", 1)),
    (SAY,) * 20,
    (("go", 20),) * 20,
]

WRONG_INPUTS = NO_TUPLES + [
    (None,),
    (True,),
    (False,),
    ("1",),
    ((),),
    ([1],),
    (MILLION + 1,),
    (-MILLION - 1,),
    (1, 2, None),
    (0,) * 51,
    [1],
    {1: 1},
]


def numbers_but(least, most):
    """Return values that are no integers from least to most."""
    return NO_NUMBERS + [least - 1, most + 1, -10 ** 30, 10 ** 30, (least,), [least], str(least)]
