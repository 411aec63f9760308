import unittest
from itertools import product

from jointdraws.draws import Draw, End, Round, read_draw, rounds_of
from jointdraws.errors import (
    BadDraws, BadGivers, BadKind, BadName, BadPath, BadShares, BadStandIn, TooMany, Twice)
from jointdraws.ratios import Ratio
from tests.samples import FAIR, MORE_TEXT, UNLIKE_TEXT, assert_raises, many_draws, more, one_giver, unlike, wrong_values

GOOD_NAMES = ["a", "z", "no", "yes", "open", "abcdefgh"]
BAD_NAMES = ["", "Yes", "abcdefghi", "a b", "a1", "no ", " no", "a-b", "\u00e4", "a\n", "*", "(", "a_b"]


def is_good_name(value):
    return value in ("a", "no", "open") if isinstance(value, str) else False


class EndTest(unittest.TestCase):
    def test_names(self):
        for name in GOOD_NAMES:
            self.assertEqual(End(name).name, name)
            self.assertEqual(End(name=name).name, name)

    def test_bad_names(self):
        for value in BAD_NAMES + wrong_values():
            if not is_good_name(value):
                assert_raises(self, BadName, "given", value, lambda: End(value))

    def test_an_end_alone(self):
        end = End("yes")
        self.assertIsInstance(end, Draw)
        self.assertEqual([end.ends(), end.people(), end.rows(), end.depth(), len(end)], [["yes"], [], [], 0, 1])
        self.assertEqual([end.paths(), end.text(), end.at(()) == end], [[()], "yes", True])
        for value in wrong_values() + [((),), ((0,),)]:
            if value != ():
                assert_raises(self, BadPath, "given", value, lambda: end.at(value))


class RoundTest(unittest.TestCase):
    def test_properties(self):
        ends = [End("no"), End("yes"), End("yes"), End("no")]
        draw = Round(kind="held", givers=[("ann", FAIR, 0), ("bob", (Ratio(1, 3), Ratio(4, 6)), 1)], draws=ends)
        self.assertIsInstance(draw, Draw)
        self.assertEqual(draw.kind, "held")
        self.assertEqual(draw.givers, (("ann", (Ratio(1, 2), Ratio(1, 2)), 0), ("bob", (Ratio(1, 3), Ratio(2, 3)), 1)))
        self.assertEqual(draw.draws, tuple(ends))
        self.assertEqual([type(draw.givers), type(draw.draws), type(draw.givers[0]), type(draw.givers[0][1])], [tuple] * 4)
        self.assertEqual({type(share) for giver in draw.givers for share in giver[1]}, {Ratio})

    def test_kinds(self):
        for kind in ("open", "sealed", "held", "last"):
            self.assertEqual(Round(kind, [("ann", FAIR, 0)], [End("a"), End("b")]).kind, kind)
        for value in ["Open", "close", "open ", "", "opensealed"] + wrong_values():
            if value != "open":
                assert_raises(self, BadKind, "given", value, lambda: Round(value, [("ann", FAIR, 0)], [End("a"), End("b")]))

    def test_tuples_in_the_place_of_lists(self):
        ends = (End("no"), End("yes"), End("yes"), End("no"))
        draw = Round("held", (("ann", tuple(FAIR), 0), ("bob", tuple(FAIR), 0)), ends)
        self.assertEqual(draw, unlike())

    def test_bad_givers(self):
        good = ("ann", FAIR, 0)
        names = ["ann", "bob", "cid", "dan", "eve"]
        wrong = [[], (), good, [list(good)], [("ann", FAIR)], [("ann", FAIR, 0, 0)], [good, None], [good, "bob"],
                 {"ann": good}, [()], [good, ["bob", FAIR, 0]], [(name, FAIR, 0) for name in names], "ann", [good, 1]]
        for value in wrong + wrong_values():
            assert_raises(self, BadGivers, "given", value, lambda: Round("open", value, [End("a"), End("b")]))

    def test_bad_names_of_givers(self):
        for value in BAD_NAMES + wrong_values():
            if not is_good_name(value):
                assert_raises(self, BadName, "given", value, lambda: Round("open", [(value, FAIR, 0)], [End("a")] * 2))
                givers = [("ann", FAIR, 0), (value, FAIR, 0)]
                assert_raises(self, BadName, "given", value, lambda: Round("open", givers, [End("a")] * 4))

    def test_twice(self):
        givers = [("ann", FAIR, 0), ("bob", FAIR, 0), ("ann", FAIR, 0)]
        assert_raises(self, Twice, "person", givers[2][0], lambda: Round("open", givers, [End("a")] * 8))
        givers = [("ann", FAIR, 0), ("bob", FAIR, 0), ("bob", FAIR, 0), ("ann", FAIR, 0)]
        assert_raises(self, Twice, "person", givers[2][0], lambda: Round("open", givers, [End("a")] * 16))

    def test_good_shares(self):
        for shares in [[Ratio(1, 10 ** 90), 1 - Ratio(1, 10 ** 90)], [Ratio(1, 3)] * 3, [Ratio(1, 4)] * 4,
                       (Ratio(1, 2), Ratio(1, 3), Ratio(1, 6))]:
            draw = one_giver(shares, *(["a"] * len(shares)))
            self.assertEqual(draw.givers[0][1], tuple(shares))

    def test_bad_shares(self):
        half = Ratio(1, 2)
        wrong = [[half], [1], [half, half, half], [half, Ratio(1, 3)], [1, 0], [0, 1], [Ratio(0), Ratio(1)],
                 [half, half, 0], [Ratio(3, 2), Ratio(-1, 2)], [2, -1], [Ratio(1, 5)] * 5, [half, "1/2"], [half, None],
                 [True, False], [half, half, False], {0: half, 1: half}, "1/2", [[half, half]], [half, [half]], [half, End("a")]]
        for value in wrong + wrong_values():
            assert_raises(self, BadShares, "given", value, lambda: Round("open", [("ann", value, 0)], [End("a")] * 2))

    def test_stand_ins(self):
        third = [Ratio(1, 3)] * 3
        for stand_in in (0, 1, 2):
            self.assertEqual(Round("held", [("ann", third, stand_in)], [End("a")] * 3).givers[0][2], stand_in)
        for value in [3, -1, 10 ** 99, Ratio(2), Ratio(0)] + wrong_values():
            if type(value) is not int or value not in (0, 1, 2):
                assert_raises(self, BadStandIn, "given", value,
                              lambda: Round("held", [("ann", third, value)], [End("a")] * 3))

    def test_too_many_rows(self):
        third, fourth = [Ratio(1, 3)] * 3, [Ratio(1, 4)] * 4
        names = ["ann", "bob", "cid", "dan"]
        for sizes, many in [([third, third, FAIR], 18), ([fourth, third, FAIR], 24), ([third] * 4, 81), ([fourth] * 4, 256),
                            ([fourth, fourth, FAIR], 32), ([FAIR, FAIR, FAIR, third], 24)]:
            givers = [(name, shares, 0) for name, shares in zip(names, sizes)]
            for draws in ([End("a")] * many, [], None):
                with self.assertRaises(TooMany) as caught:
                    Round("open", givers, draws)
                self.assertEqual(caught.exception.count, many)

    def test_sixteen_rows_are_not_too_many(self):
        fourth = [Ratio(1, 4)] * 4
        names = ["ann", "bob", "cid", "dan"]
        for sizes in ([FAIR] * 4, [fourth, fourth], [FAIR, fourth, FAIR]):
            givers = [(name, shares, 0) for name, shares in zip(names, sizes)]
            draw = Round("open", givers, [End("a")] * 16)
            self.assertEqual([len(draw), len(draw.rows()), draw.rows()],
                             [16, 16, list(product(*[range(len(shares)) for shares in sizes]))])

    def test_bad_draws(self):
        end = End("a")
        wrong = [[], [end], [end] * 3, [end, "a"], [end, None], ["a", "a"], end, {0: end, 1: end}, [[end, end]], "aa", [end, [end]]]
        for value in wrong + wrong_values():
            assert_raises(self, BadDraws, "given", value, lambda: Round("open", [("ann", FAIR, 0)], value))

    def test_order_of_errors(self):
        ends = [End("a")] * 2
        bad_shares, other_shares, bad_name = [1], [2], "Bob"
        ann = ("ann", FAIR, 0)
        cases = [
            (BadKind, "given", "shut", ("shut", None, None)),
            (BadKind, "given", None, (None, [("Ann", [], 9)], ends)),
            (BadGivers, "given", None, ("open", None, None)),
            (BadName, "given", bad_name, ("open", [ann, (bad_name, bad_shares, 9), ("ann", other_shares, 9)], None)),
            (BadShares, "given", bad_shares, ("open", [("ann", bad_shares, 9), (bad_name, [], 9)], None)),
            (BadStandIn, "given", 9, ("open", [("ann", FAIR, 9), ("ann", bad_shares, 9)], None)),
            (Twice, "person", "ann", ("open", [ann, ("ann", bad_shares, 9), (bad_name, FAIR, 0)], None)),
            (BadShares, "given", bad_shares, ("open", [ann, ("bob", bad_shares, 9), ("ann", other_shares, 9)], None)),
            (BadShares, "given", bad_shares, ("open", [("ann", [Ratio(1, 4)] * 4, 3), ("bob", bad_shares, 0)], [])),
            (BadDraws, "given", None, ("open", [ann], None)),
        ]
        for error, attribute, value, given in cases:
            assert_raises(self, error, attribute, value, lambda: Round(*given))

    def test_arguments_are_copied(self):
        shares, other = [Ratio(1, 2), Ratio(1, 2)], [Ratio(1, 3), Ratio(2, 3)]
        givers = [("ann", shares, 0), ("bob", other, 1)]
        ends = [End("no"), End("yes"), End("yes"), End("no")]
        draw = Round("held", givers, ends)
        text = draw.text()
        self.assertEqual([shares, other], [[Ratio(1, 2), Ratio(1, 2)], [Ratio(1, 3), Ratio(2, 3)]])
        self.assertEqual([len(givers), len(ends)], [2, 4])
        shares[0] = Ratio(1, 7)
        other.append(3)
        del givers[0]
        ends[0] = End("maybe")
        self.assertEqual([draw.text(), draw.rows(), draw.ends(), draw.people()],
                         [text, [(0, 0), (0, 1), (1, 0), (1, 1)], ["no", "yes"], ["ann", "bob"]])
        self.assertEqual(draw.givers[0][1], tuple(FAIR))


def walk(draw, path=()):
    """All paths with the draws to which they lead, by another way than the program's."""
    yield path, draw
    if isinstance(draw, Round):
        counts = [range(len(shares)) for _, shares, _ in draw.givers]
        for row, further in zip(product(*counts), draw.draws):
            yield from walk(further, path + (row,))


class QuestionsTest(unittest.TestCase):
    def test_against_a_walk(self):
        for draw in many_draws():
            met = list(walk(draw))
            whole = [path for path, here in met if isinstance(here, End)]
            self.assertEqual(draw.paths(), whole)
            self.assertEqual(draw.paths(), sorted(whole))
            self.assertEqual(len(draw), len(whole))
            self.assertEqual(draw.depth(), max(map(len, whole)))
            self.assertEqual(draw.ends(), sorted({here.name for _, here in met if isinstance(here, End)}))
            givers = {giver[0] for _, here in met if isinstance(here, Round) for giver in here.givers}
            self.assertEqual(draw.people(), sorted(givers))
            for path, here in met:
                self.assertEqual(draw.at(path), here)
                self.assertEqual(draw.at(path=path).text(), here.text())

    def test_rows(self):
        draw = Round("open", [("bob", [Ratio(1, 3)] * 3, 0), ("ann", FAIR, 0)], [End("a")] * 6)
        self.assertEqual(draw.rows(), [(0, 0), (0, 1), (1, 0), (1, 1), (2, 0), (2, 1)])
        self.assertEqual(draw.people(), ["ann", "bob"])
        self.assertEqual(one_giver(FAIR, "a", "b").rows(), [(0,), (1,)])

    def test_rows_lead_in_ascending_order(self):
        draw = Round("open", [("bob", [Ratio(1, 3)] * 3, 0), ("ann", FAIR, 0)], [End(name) for name in "abcdef"])
        self.assertEqual([draw.at((row,)).name for row in draw.rows()], list("abcdef"))
        self.assertEqual(draw.at(((2, 0),)).name, "e")

    def test_empty_path(self):
        for draw in many_draws():
            self.assertEqual(draw.at(()), draw)

    def test_bad_paths(self):
        draw = more()
        wrong = [[], [(0,)], ((0,), (0,)), ((0,), ()), ((2,),), ((-1,),), ((1,), (2,)), ((1,), (0,), (0,)), ((0, 0),), ((),),
                 (0,), ((True,),), ((False,),), ((Ratio(1),),), ((1,), (Ratio(0),)), ((1,), (True,)), ("0",), (("0",),),
                 ([1],), ((1,), [0]), ((None,),), (((1,),),), ((1,), None), ({0: 1},), ((1,), (10 ** 99,)), ((1,), End("no"))]
        for value in wrong:
            assert_raises(self, BadPath, "given", value, lambda: draw.at(value))
        for value in wrong_values():
            if repr(value) not in ("()", "((0,),)"):
                assert_raises(self, BadPath, "given", value, lambda: draw.at(value))
        assert_raises(self, BadPath, "given", None, lambda: draw.at(path=None))

    def test_bad_paths_with_two_givers(self):
        for value in [((0,),), ((0, 2),), ((0, 0, 0),), ((0, True),), ((0, Ratio(0)),), ((0, 1), (0,)), ([0, 1],), [(0, 1)]]:
            assert_raises(self, BadPath, "given", value, lambda: unlike().at(value))
        self.assertEqual(unlike().at(((0, 1),)).name, "yes")

    def test_rounds_in_the_order_of_the_text(self):
        for draw in many_draws():
            met = [here for _, here in walk(draw) if isinstance(here, Round)]
            self.assertEqual(rounds_of(draw), met)

    def test_what_is_returned_is_new(self):
        for draw in many_draws():
            text = draw.text()
            for ask in (draw.ends, draw.people, draw.rows, draw.paths):
                before = list(ask())
                told = ask()
                self.assertIs(type(told), list)
                told.append("more")
                told.reverse()
                self.assertEqual(ask(), before)
                self.assertEqual(ask(), ask())
            self.assertEqual(draw.text(), text)

    def test_deep_draws(self):
        draw = End("no")
        for step in range(250):
            draw = Round("open", [("abc"[step % 3], FAIR, 0)], [draw, End("yes")])
        self.assertEqual([draw.depth(), len(draw), draw.ends(), draw.people()], [250, 251, ["no", "yes"], ["a", "b", "c"]])
        self.assertEqual(len(draw.paths()), 251)
        self.assertEqual(draw.at(((0,),) * 250).name, "no")
        self.assertEqual(draw, read_draw(draw.text()))


class EqualityTest(unittest.TestCase):
    def test_equal_draws(self):
        for one, other in zip(many_draws(), many_draws()):
            self.assertIs(one == other, True)
            self.assertIs(one != other, False)

    def test_different_draws(self):
        draws = many_draws()
        for place, one in enumerate(draws):
            for other in draws[place + 1:]:
                self.assertIs(one == other, False)
                self.assertIs(one != other, True)

    def test_each_part_counts(self):
        texts = [UNLIKE_TEXT,
                 UNLIKE_TEXT.replace("held", "last"),
                 UNLIKE_TEXT.replace("ann", "cid"),
                 UNLIKE_TEXT.replace("bob 1/2 1/2", "bob 1/3 2/3"),
                 UNLIKE_TEXT.replace("bob 1/2 1/2", "bob 2/3 1/3"),
                 UNLIKE_TEXT.replace("*0;", "*1;"),
                 UNLIKE_TEXT.replace("yes, no)", "yes, yes)"),
                 "held(bob 1/2 1/2 *0, ann 1/2 1/2 *0; no, yes, yes, no)",
                 "open(ann 1/2 1/2 *0; no, yes)", "open", "no"]
        for place, one in enumerate(texts):
            for at, other in enumerate(texts):
                self.assertIs(read_draw(one) == read_draw(other), place == at)

    def test_other_classes(self):
        for draw in many_draws():
            for value in wrong_values() + [draw.text(), [draw], (draw,)]:
                if not isinstance(value, Draw):
                    self.assertIs(draw == value, False)
                    self.assertIs(value == draw, False)
                    self.assertIs(draw != value, True)
        self.assertIs(End("no") == "no", False)

    def test_shares_of_the_same_value(self):
        one = one_giver([Ratio(2, 4), Ratio(3, 6)], "a", "b")
        self.assertEqual(one, one_giver(FAIR, "a", "b"))

    def test_difference_in_a_further_draw(self):
        one = read_draw(MORE_TEXT)
        other = read_draw(MORE_TEXT.replace("no, yes)", "yes, no)"))
        self.assertFalse(one == other)
        self.assertTrue(one.at(((0,),)) == other.at(((0,),)))


if __name__ == "__main__":
    unittest.main()
