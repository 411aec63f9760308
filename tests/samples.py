"""Draws and values that several tests use, and questions that they ask."""

from fractions import Fraction

from jointdraws.draws import End, Round, read_draw
from jointdraws.ratios import Ratio

FAIR = [Ratio(1, 2), Ratio(1, 2)]
UNLIKE_TEXT = "held(ann 1/2 1/2 *0, bob 1/2 1/2 *0; no, yes, yes, no)"
MORE_TEXT = "open(cid 1/3 2/3 *1; yes, held(ann 1/2 1/2 *0; no, yes))"
MIXED_TEXT = "held(ann 1/2 1/2 *0, bob 1/3 2/3 *1; yes, no, no, open(cid 1/2 1/2 *0; yes, no))"
TURNS_TEXT = "open(ann 1/2 1/2 *0; no, open(bob 1/2 1/2 *0; no, yes))"


def unlike():
    return Round("held", [("ann", FAIR, 0), ("bob", FAIR, 0)], [End("no"), End("yes"), End("yes"), End("no")])


def more():
    return read_draw(MORE_TEXT)


def one_giver(shares, *names):
    return Round("open", [("ann", shares, 0)], [End(name) for name in names])


def many_draws():
    """Draws of all kinds, from an end alone to four givers and several rounds."""
    deep = "last(bob 1/4 3/4 *1, dan 1/2 1/3 1/6 *2; %s, no, yes, maybe, %s, no)" % (MIXED_TEXT, TURNS_TEXT)
    four = "sealed(ann 1/2 1/2 *0, bob 1/3 2/3 *1, cid 1/7 6/7 *0, dan 2/5 3/5 *1; %s)" % ", ".join(["a", "b", "c"] * 5 + ["a"])
    wide = "open(eve 1/10 1/5 3/10 2/5 *3; no, %s, %s, yes)" % (four, deep)
    texts = ["no", UNLIKE_TEXT, MORE_TEXT, MIXED_TEXT, TURNS_TEXT, deep, four, wide]
    return [read_draw(text) for text in texts]


def wrong_values():
    """Values of all kinds, new ones on each call."""
    nested = None
    for _ in range(6):
        nested = [(nested,)]
    return [
        None, True, False, 0, 1, -1, 2, 5, 17, "", "a", "no", "Yes", "ab c", "2/4", "open", "toolongname", "*",
        Ratio(0), Ratio(1), Ratio(1, 2), Ratio(-3, 7), End("no"), unlike(),
        [], [0], ["ann"], [[1], [2]], [None, True], [End("no")], (), (0,), (True,), ("no",), ((0,),), ((9,),),
        ((True,),), ((Ratio(0),),), ([0],), ((0, 0, 0, 0, 0),), ("open", [], []), {}, {"no": 0}, {"ann": [1, (2, None)]},
        {0: {"x": ({},)}}, {("a", 1): Ratio(2)}, nested,
    ]


def fraction(number):
    """The same number as one of Python's own, to reckon with apart from the program."""
    if isinstance(number, Ratio):
        return Fraction(number.top, number.bottom)
    return Fraction(number)


def assert_raises(test, error, attribute, value, call):
    """The call raises just this error, and it keeps the very value."""
    with test.assertRaises(error) as caught:
        call()
    test.assertEqual(type(caught.exception), error)
    if attribute is not None:
        test.assertIs(getattr(caught.exception, attribute), value)


def is_some_of(value, names):
    """Whether a value is a list of different ones of some names."""
    if not isinstance(value, (list, tuple)) or not all(isinstance(item, str) and item in names for item in value):
        return False
    return len(set(value)) == len(value)


def wrong_lists(names):
    """Values that are no lists of different ones of some names: strangers, somebody twice, and other kinds."""
    first = names[0] if names else "ann"
    wrong = [["eve"], ("zoe",), [first, "stranger"], [first, first], (first, first), names + names[-1:], first, {first: 1},
             [first.upper()], [None], [True], [0], [[first]], [(first,)], [first, None], [first, [first]], [first, Ratio(1)],
             [first, End("a")], "", {}, [first, ""], [{}], [first, {"a": (1,)}]]
    return [value for value in wrong + wrong_values() if not is_some_of(value, names)]


def wrong_wishes(names):
    """Values that are no wishes for a draw with these names of ends."""
    good = {name: 1 for name in names}
    short = {name: 1 for name in names[1:]}
    wrong = [short, {**short, "other": 1}, {**good, "other": 1}, {**good, names[0]: True}, {**good, names[-1]: None},
             {**good, names[0]: "1"}, {**good, names[-1]: [1]}, {**good, names[0]: End("a")}, list(good), tuple(good.items()),
             {**good, 0: 1}, {**short, (names[0],): 1}, {name.upper(): 1 for name in names}]
    return [value for value in wrong + wrong_values()
            if not (isinstance(value, dict) and sorted(map(str, value)) == names and all(type(value[name]) in (int, Ratio) for name in names))]


def wrong_amounts():
    """Values that are no numbers from 0 on."""
    wrong = [-1, Ratio(-1, 10 ** 50), -10 ** 99, "1", "1/2", [1], (0,), {"a": 0}]
    return [value for value in wrong + wrong_values() if not is_number(value) or fraction(value) < 0]


def is_number(value):
    return type(value) in (int, Ratio)


def wrong_counts(most):
    """Values that are no integers from 0 to a greatest one."""
    wrong = [-1, most + 1, 10 ** 99, Ratio(most), Ratio(0), Ratio(1, 2), True, False, str(most), [most], (0,)]
    return [value for value in wrong + wrong_values() if type(value) is not int or not 0 <= value <= most]


def wrong_prices(people):
    """Values that are no dicts from just these people to numbers from 0 on."""
    good = {person: 1 for person in people}
    short = {person: 1 for person in people[1:]}
    first = people[0]
    wrong = [short, {**good, "zoe": 1}, {**short, "zoe": 1}, {**good, first: -1}, {**good, first: Ratio(-1, 9)}, {**good, first: True},
             {**good, first: None}, {**good, first: "1"}, {**good, first: [1]}, list(good), list(good.items()), {**good, 0: 1},
             {**short, (first,): 1}, {**good, first: End("a")}, tuple(people), {**good, first: {}}]
    return wrong + wrong_values()
