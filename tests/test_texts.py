import random
import unittest

from jointdraws.draws import End, Round, read_draw
from jointdraws.errors import BadText
from jointdraws.ratios import Ratio
from tests.samples import FAIR, MIXED_TEXT, MORE_TEXT, UNLIKE_TEXT, assert_raises, many_draws, unlike, wrong_values


def random_draw(chance, depth):
    if depth == 0 or chance.random() < 0.2:
        return End(chance.choice(["no", "yes", "maybe", "open", "last", "ann"]))
    givers, rows = [], 1
    for person in chance.sample(["ann", "bob", "held", "d"], chance.choice([1, 1, 2])):
        weights = [chance.randrange(1, 5) for _ in range(chance.randrange(2, 4))]
        givers.append((person, [Ratio(weight, sum(weights)) for weight in weights], chance.randrange(len(weights))))
        rows = rows * len(weights)
    kind = chance.choice(["open", "sealed", "held", "last"])
    return Round(kind, givers, [random_draw(chance, depth - 1) for _ in range(rows)])


class TextsTest(unittest.TestCase):
    def test_ends(self):
        for name in ["a", "no", "open", "held", "abcdefgh"]:
            self.assertEqual(End(name).text(), name)
            self.assertEqual(read_draw(name), End(name))
            self.assertIs(type(read_draw(name)), End)

    def test_rounds(self):
        self.assertEqual(unlike().text(), UNLIKE_TEXT)
        draw = read_draw(MIXED_TEXT)
        self.assertEqual([draw.text(), len(draw), draw.kind], [MIXED_TEXT, 5, "held"])
        self.assertEqual(draw.givers, (("ann", tuple(FAIR), 0), ("bob", (Ratio(1, 3), Ratio(2, 3)), 1)))
        inner = Round("open", [("cid", FAIR, 0)], [End("yes"), End("no")])
        self.assertEqual(draw.draws, (End("yes"), End("no"), End("no"), inner))

    def test_there_and_back(self):
        chance = random.Random(3)
        for draw in many_draws() + [random_draw(chance, 3) for _ in range(60)]:
            again = read_draw(text=draw.text())
            self.assertEqual(again, draw)
            self.assertEqual(again.text(), draw.text())
            self.assertEqual(again.paths(), draw.paths())

    def test_deep_texts(self):
        text = "yes"
        for _ in range(250):
            text = "open(a 1/2 1/2 *0; no, " + text + ")"
        draw = read_draw(text)
        self.assertEqual([draw.depth(), draw.text() == text, draw == read_draw(text)], [250, True, True])
        for wrong in ("open(" * 1100, text[:-1], text + ")", ")" * 3000, "open(a 1/2 1/2 *0; " * 290, "a, " * 1900):
            assert_raises(self, BadText, "given", wrong, lambda: read_draw(wrong))

    def test_many_people(self):
        text = "no"
        for person in ["a", "b", "c", "d", "e", "f", "g", "h", "i"]:
            text = "last(" + person + " 1/2 1/2 *1; " + text + ", end" + person + ")"
        draw = read_draw(text)
        self.assertEqual([draw.text(), draw.people(), len(draw.ends())], [text, list("abcdefghi"), 10])

    def test_other_values(self):
        for value in wrong_values() + [[UNLIKE_TEXT], (MORE_TEXT,), {"text": MORE_TEXT}, unlike()]:
            if value not in ("a", "no", "open"):
                assert_raises(self, BadText, "given", value, lambda: read_draw(value))

    def test_other_texts(self):
        good = "held(ann 1/2 1/2 *0, bob 1/3 2/3 *1; yes, no, no, yes)"
        self.assertEqual(read_draw(good).text(), good)
        swaps = [("held", "Held"), ("held", "shut"), ("held", ""), ("held(", "held ("), ("held(", "held"), ("held(", "held(("),
                 ("held(", "held( "), ("ann", "Ann"), ("ann", ""), ("ann", "bob"), ("ann", "annannann"), ("ann ", "ann  "),
                 ("ann ", "ann"), ("1/2 1/2", "1/2  1/2"), ("1/2 1/2", "1/2,1/2"), ("1/2 1/2", "1/2"), ("1/2 1/2", ""),
                 ("1/2 1/2", "2/4 1/2"), ("1/2 1/2", "1/2 1/2 1/2"), ("1/2 1/2", "0 1"), ("1/2 1/2", "1 0"),
                 ("1/2 1/2", "3/2 -1/2"), ("1/2 1/2", "+1/2 1/2"), ("1/2 1/2", "1/0 1/2"), ("1/2 1/2", "01/2 1/2"),
                 ("1/2 1/2", "1/4 1/4"), ("1/2 1/2", "1"), ("*0", "0"), ("*0", "* 0"), ("*0", "*2"), ("*0", "*-1"), ("*0", "*-0"),
                 ("*0", "*00"), ("*0", "*+0"), ("*0", "*"), ("*0", "**0"), ("*0", "*1/2"), ("*0", "*0/1"), ("*0", "*0 "),
                 ("*0, ", "*0,"), ("*0, ", "*0,  "), ("*0, ", "*0; "), ("*0, ", ""), ("*1; ", "*1;"), ("*1; ", "*1 ; "),
                 ("*1; ", "*1, "), ("*1; ", "*1;  "), ("*1; ", "*1"), ("; yes", "; Yes"), ("; yes, ", "; "), ("; yes", "; yes, yes"),
                 ("; yes", "; "), ("yes, no", "yes,no"), ("yes, no", "yes , no"), ("yes, no", "yes; no"), ("yes, no", "yes no"),
                 ("yes, no", "yes, , no"), ("yes)", "yes"), ("yes)", "yes))"), ("yes)", "yes )"), ("yes)", "yes) "),
                 ("yes)", "yes, )"), ("yes)", "yes), no"), ("yes)", "yes)no"), ("yes)", "yes]"), ("yes)", "()"),
                 ("yes)", "open(cid 1/2 1/2 *0; yes))"), ("yes)", "open(cid 1/2 1/2 *0; yes, no)"), ("; yes", "; open(yes)")]
        for old, new in swaps:
            self.assertIn(old, good)
            text = good.replace(old, new, 1)
            assert_raises(self, BadText, "given", text, lambda: read_draw(text))
        for text in ["open(ann 1/2 1/2 *0)", "open(ann 1/2 1/2 *0", "open(ann 1/2 1/2 *0;no, yes)", "", " ", "no ", " no", "No", "abcdefghi", "no, yes", "(no)", "no)", "(", ")", ";", ",", "no;", "no(", "no()",
                     "open()", "open(;)", "open(; )", "open(; no, yes)", "open(ann; no, yes)", "open(*0; no, yes)", " " + good,
                     good + " ", good + good, good + ", " + good, "a" + good, good + "\n", "no\n", "\u00e4", "a-b", "1", "1/2", "*"]:
            assert_raises(self, BadText, "given", text, lambda: read_draw(text))

    def test_too_many_rows(self):
        third = "1/3 1/3 1/3 *0"
        text = f"open(a {third}, b {third}, c 1/2 1/2 *0; {', '.join(['no'] * 18)})"
        assert_raises(self, BadText, "given", text, lambda: read_draw(text))
        five = "open(a 1/2 1/2 *0, b 1/2 1/2 *0, c 1/2 1/2 *0, d 1/2 1/2 *0, e 1/2 1/2 *0; " + ", ".join(["no"] * 32) + ")"
        assert_raises(self, BadText, "given", five, lambda: read_draw(five))

    def test_changed_texts_are_read_only_if_they_are_texts(self):
        chance = random.Random(5)
        signs = "ab(),;*/ 012-"
        for _ in range(4000):
            text = chance.choice([UNLIKE_TEXT, MORE_TEXT, MIXED_TEXT])
            for _ in range(chance.randrange(1, 3)):
                place = chance.randrange(len(text))
                kept = chance.choice([place, place + 1])
                text = text[:place] + chance.choice(["", chance.choice(signs)]) + text[kept:]
            try:
                self.assertEqual(read_draw(text).text(), text)
            except BadText as caught:
                self.assertIs(caught.given, text)


if __name__ == "__main__":
    unittest.main()
