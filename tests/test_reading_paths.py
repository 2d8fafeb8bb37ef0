"""Promise 13.7: expressions as texts."""

import re

from wholeways.errors import BadSigns, NoExpression
from wholeways.expressions import is_expression
from wholeways.reading_paths import expression_text, read_expression

from tests.graphs import TOP, drawn_expression
from tests.helping import Case, drawn, odd_things
from tests.test_expressions import NONE, nested, wide

W, ANY, HERE = ("word", "ab"), ("any",), ("here",)
TOKEN = re.compile(r"(?P<back>~[a-z]{2})|(?P<word>[a-z]{2})|(?P<any>\.)|(?P<here>_)|(?P<node>\[[<=>](0|-?[1-9][0-9]*)\])|(?P<times>\{[0-9],[1-9]\})|(?P<sign>[()|*+?])|(?P<blank> +)")


def plain_tokens(text):
    """The list of pairs (kind, text), None for what has other signs, or two words side by side."""
    found, place = [], 0
    while place < len(text):
        match = TOKEN.match(text, place)
        if match is None or (match.lastgroup == "word" and found and found[-1][0] in ("word", "back")):
            return None
        if match.lastgroup == "times" and match.group()[1] > match.group()[3]:
            return None
        found.append((match.lastgroup, match.group()))
        place = match.end()
    return [token for token in found if token[0] != "blank"]


def plain_read(text):
    """The expression of a text, None for none; by three functions, one for each way to bind."""
    tokens = plain_tokens(text)
    if tokens is None:
        return None
    tokens = tokens + [("end", "")]

    def either(place):
        tree, place = row(place)
        while tree and tokens[place][1] == "|":
            other, place = row(place + 1)
            tree = ("or", tree, other) if other else None
        return tree, place

    def row(place):
        tree, place = item(place)
        while tree and tokens[place][0] != "end" and tokens[place][1] not in ")|":
            other, place = item(place)
            tree = ("then", tree, other) if other else None
        return tree, place

    def item(place):
        kind, sign = tokens[place]
        if sign == "(":
            tree, place = either(place + 1)
            if tree is None or tokens[place][1] != ")":
                return None, place
        else:
            trees = {"back": ("back", sign[1:]), "word": ("word", sign), "any": ANY, "here": HERE, "node": ("node", sign[1:2], int(sign[2:-1]) if kind == "node" else 0)}
            if kind not in trees:
                return None, place
            tree = trees[kind]
        place += 1
        while tokens[place][0] == "times" or tokens[place][1] in ("*", "+", "?"):
            kind, sign = tokens[place]
            tree = ("times", int(sign[1]), int(sign[3]), tree) if kind == "times" else ({"*": "star", "+": "plus", "?": "maybe"}[sign], tree)
            place += 1
        return tree, place

    tree, place = either(0)
    return tree if tree and tokens[place][0] == "end" else None


TAILS = ["", "a", "aa", " aa", ".", "<1]", "1]", "]", "9,9}", ",9}", "9}", "}"]


def can_go_on(text):
    """Whether a text is the beginning of one that can be read."""
    closed = ")" * max(0, text.count("(") - text.count(")"))
    return any(plain_read(text + tail + item + closed) is not None for tail in TAILS for item in ("", "."))


class Texts(Case):
    def test_e12(self):
        self.same((read_expression("ab* | ~cd{1,2} [=3]"), expression_text(("star", ("then", ("any",), ("here",))))),
                  (("or", ("star", ("word", "ab")), ("then", ("times", 1, 2, ("back", "cd")), ("node", "=", 3))), "(. _)*"))

    def test_each_kind(self):
        for expression, text in [(W, "ab"), (("back", "zz"), "~zz"), (ANY, "."), (HERE, "_"), (("node", "<", 5), "[<5]"), (("node", "=", 0), "[=0]"), (("node", ">", -TOP), "[>-1000000000000000000]"),
                                 (("node", "=", TOP), "[=1000000000000000000]"), (("then", W, ("word", "cd")), "ab cd"), (("or", W, ANY), "ab | ."), (("star", W), "ab*"), (("plus", ("back", "ab")), "~ab+"),
                                 (("maybe", ANY), ".?"), (("times", 0, 9, HERE), "_{0,9}"), (("times", 3, 3, ("node", "<", -1)), "[<-1]{3,3}")]:
            self.same((expression_text(expression), read_expression(text)), (text, expression))

    def test_each_pair_of_kinds(self):
        """Just the parentheses that are told."""
        then, either, other = ("then", W, ANY), ("or", W, ANY), ("word", "cd")
        for expression, text in [(("then", then, other), "ab . cd"), (("then", other, then), "cd (ab .)"), (("then", either, other), "(ab | .) cd"), (("then", other, either), "cd (ab | .)"),
                                 (("or", then, other), "ab . | cd"), (("or", other, then), "cd | ab ."), (("or", either, other), "ab | . | cd"), (("or", other, either), "cd | (ab | .)"),
                                 (("then", then, then), "ab . (ab .)"), (("or", either, either), "ab | . | (ab | .)"), (("then", either, either), "(ab | .) (ab | .)"), (("or", then, then), "ab . | ab .")]:
            self.same((expression_text(expression), read_expression(text)), (text, expression))
        signs = {"star": "*", "plus": "+", "maybe": "?"}
        for kind, sign in signs.items():
            for part, text in [(then, "(ab .)" + sign), (either, "(ab | .)" + sign), (W, "ab" + sign), (("back", "ab"), "~ab" + sign), (ANY, "." + sign), (("node", "<", 1), "[<1]" + sign), (("star", W), "ab*" + sign),
                               (("plus", W), "ab+" + sign), (("maybe", W), "ab?" + sign), (("times", 1, 2, W), "ab{1,2}" + sign)]:
                self.same((expression_text((kind, part)), read_expression(text)), (text, (kind, part)))
                self.same((expression_text(("times", 0, 1, part)), read_expression(text[:-1] + "{0,1}")), (text[:-1] + "{0,1}", ("times", 0, 1, part)))
            for whole, text in [(("then", (kind, W), (kind, ANY)), f"ab{sign} .{sign}"), (("or", (kind, W), (kind, ANY)), f"ab{sign} | .{sign}"), (("or", (kind, then), W), f"(ab .){sign} | ab")]:
                self.same((expression_text(whole), read_expression(text)), (text, whole))

    def test_the_step(self):
        """What is read of the text is the expression, and the text has no parentheses that it could do without."""
        for seed in range(600):
            expression = drawn_expression(drawn(seed), 6)
            if is_expression(expression):
                text = expression_text(expression)
                self.same((read_expression(text), plain_read(text)), (expression, expression))
                for place in [k for k, sign in enumerate(text) if sign == "("]:
                    end = closing(text, place)
                    self.assertNotEqual(plain_read(text[:place] + text[place + 1:end] + text[end + 1:]), expression)

    def test_no_expression(self):
        for thing in NONE + [nested("star", 31), nested("then", 31), wide(301)]:
            with self.subTest(thing=repr(thing)[:60]):
                self.raises(NoExpression, expression_text, thing)

    def test_deep_and_wide_ones(self):
        for thing in [wide(300), wide(300, "or")] + [nested(kind, 30) for kind in ("then", "or", "star", "plus", "maybe", "times")]:
            self.same(read_expression(expression_text(thing)), thing)


def closing(text, place):
    """The place of the parenthesis that closes the one at a place."""
    deep = 0
    for k in range(place, len(text)):
        deep += {"(": 1, ")": -1}.get(text[k], 0)
        if deep == 0:
            return k


class Loose(Case):
    def test_blanks_wherever_they_may_stand(self):
        for text, expression in [("  ab  ", W), ("ab.", ("then", W, ANY)), (".ab", ("then", ANY, W)), ("ab~cd", ("then", W, ("back", "cd"))), ("~ab~cd", ("then", ("back", "ab"), ("back", "cd"))),
                                 ("~ab cd", ("then", ("back", "ab"), ("word", "cd"))), ("ab  *  + ?", ("maybe", ("plus", ("star", W)))), ("ab {1,2} {0,1}", ("times", 0, 1, ("times", 1, 2, W))),
                                 ("ab|cd", ("or", W, ("word", "cd"))), ("( ab )", W), ("((ab))", W), ("(ab)cd", ("then", W, ("word", "cd"))), ("ab(cd)", ("then", W, ("word", "cd"))), ("ab*cd", ("then", ("star", W), ("word", "cd"))),
                                 ("ab[<1]cd", ("then", ("then", W, ("node", "<", 1)), ("word", "cd"))), ("ab{1,1}cd", ("then", ("times", 1, 1, W), ("word", "cd"))), ("_.__", ("then", ("then", ("then", HERE, ANY), HERE), HERE)),
                                 ("ab | cd ab", ("or", W, ("then", ("word", "cd"), W))), ("ab cd | ab", ("or", ("then", W, ("word", "cd")), W)), ("ab|.|_", ("or", ("or", W, ANY), HERE)),
                                 ("ab . _", ("then", ("then", W, ANY), HERE)), ("ab (. _)", ("then", W, ("then", ANY, HERE))), ("ab (. | _)*", ("then", W, ("star", ("or", ANY, HERE)))), ("((ab) (cd))", ("then", W, ("word", "cd"))),
                                 ("(ab|cd)ab", ("then", ("or", W, ("word", "cd")), W)), ("~ab*", ("star", ("back", "ab"))), ("[=-7]", ("node", "=", -7)), ("[<10]", ("node", "<", 10))]:
            self.same(read_expression(text), expression)

    def test_loosened_texts(self):
        """Blanks between all signs and about, needless parentheses about parts."""
        for seed in range(300):
            draw = drawn(seed)
            expression = drawn_expression(draw, 5)
            if is_expression(expression):
                text = "".join(sign + " " * draw.choice((0, 0, 1, 3)) if kind != "word" else sign + " " for kind, sign in plain_tokens(loose(draw, expression)))
                self.same(read_expression("  " + text), expression)

    def test_many_parentheses(self):
        for many in (1, 100, 1500, 49999):
            self.same(read_expression("(" * many + "ab" + ")" * many), W)
        self.raises(NoExpression, read_expression, "(" * 49999 + "ab" + ")" * 50000)
        self.same(self.raises(BadSigns, read_expression, "(" * 1500 + "ab" + ")" * 1499).at, 3001)
        self.same(self.raises(BadSigns, read_expression, "(" * 1500 + "ab" + ")" * 1501).at, 3002)
        self.same(self.raises(BadSigns, read_expression, "(" * 100000).at, 100000)

    def test_how_long_a_text_may_be(self):
        self.same(read_expression("ab" + " " * 99998), W)
        self.raises(NoExpression, read_expression, "ab" + " " * 99999)
        for text in ("!" * 100001, " " * 100001, "ab " * 40000):
            self.raises(NoExpression, read_expression, text)
        self.same(self.raises(BadSigns, read_expression, " " * 100000).at, 100000)


def loose(draw, expression):
    """A text of an expression with parentheses about any part."""
    kind = expression[0]
    if kind in ("then", "or"):
        first, second = [loose(draw, part) for part in expression[1:]]
        text = f"({first}) ({second})" if kind == "then" else f"({first})|({second})"
    elif kind in ("star", "plus", "maybe"):
        text = f"({loose(draw, expression[1])})" + {"star": "*", "plus": "+", "maybe": "?"}[kind]
    elif kind == "times":
        text = f"({loose(draw, expression[3])}){{{expression[1]},{expression[2]}}}"
    else:
        text = expression_text(expression)
    return f"(({text}))" if draw.random() < 0.2 else text


class Bad(Case):
    def at(self, text, place):
        self.same(self.raises(BadSigns, read_expression, text).at, place)

    def test_words(self):
        for text, place in [("abc", 2), ("abcd", 2), ("~abcd", 3), ("~abc", 3), ("a", 1), ("~a", 2), ("~", 1), ("a ", 1), ("a b", 1), ("~ ab", 1), ("~~ab", 1), ("~.", 1), ("ab c", 4), ("ab c d", 4), ("ab abc", 5), ("ab~cdef", 5),
                            ("aB", 1), ("AB", 0), ("a1", 1), ("ab1", 2), ("1", 0), ("ab~", 3), ("ab*abab", 5), ("a|b", 1), ("(a)", 2), ("ab.abc", 5)]:
            self.at(text, place)

    def test_brackets(self):
        for text, place in [("[", 1), ("[]", 1), ("[5]", 1), ("[<", 2), ("[<]", 2), ("[<-", 3), ("[<-]", 3), ("[<-0]", 3), ("[<-0", 3), ("[<05]", 3), ("[<00]", 3), ("[<-05]", 3), ("[<+5]", 2), ("[< 5]", 2), ("[ <5]", 1), ("[<5 ]", 3),
                            ("[<5", 3), ("[<=5]", 2), ("[<<5]", 2), ("[<5]]", 4), ("]", 0), ("ab]", 2), ("[<5-]", 3), ("[<--5]", 3), ("[~5]", 1), ("[<a]", 2), ("[<5a]", 3), ("[<5][", 5), ("[!5]", 1)]:
            self.at(text, place)

    def test_worths_that_are_too_great(self):
        """They cannot stand at their first sign."""
        for sign, place in (("", 2), ("-", 2)):
            for figures in ("1000000000000000001", "9999999999999999999", "10000000000000000000", "2000000000000000000", "1" * 60, "9" * 90000):
                self.at("[<" + sign + figures + "]", place)
                self.at("[<" + sign + figures, place)
                self.at("[<" + sign + figures + "!", place)
                self.at("ab [=" + sign + figures + "] !", 5)
        self.same(read_expression("[>-1000000000000000000]"), ("node", ">", -TOP))
        self.same(read_expression("[>999999999999999999]"), ("node", ">", TOP - 1))
        self.at("[<01000000000000000001]", 3)

    def test_braces(self):
        for text, place in [("ab{0,0}", 6), ("ab{2,1}", 6), ("ab{9,0}", 6), ("ab{1,0}", 6), ("ab{", 3), ("ab{}", 3), ("ab{1", 4), ("ab{1}", 4), ("ab{1,", 5), ("ab{1,}", 5), ("ab{1,2", 6), ("ab{12,3}", 4), ("ab{1,12}", 6), ("ab{10,9}", 4),
                            ("ab{,2}", 3), ("ab{ 1,2}", 3), ("ab{1 ,2}", 4), ("ab{1, 2}", 5), ("ab{1,2 }", 6), ("ab{-1,2}", 3), ("ab{a,2}", 3), ("ab{0,0", 6), ("ab{2,1x", 6), ("ab{1,2}}", 7), ("{1,2}", 0), ("ab}", 2), ("ab {3,2}", 7),
                            ("ab{1,2}{2,1}", 11), ("ab|{1,2}", 3), ("({1,2})", 1), ("ab{1.2}", 4)]:
            self.at(text, place)

    def test_signs_and_parentheses(self):
        for text, place in [("", 0), (" ", 1), ("   ", 3), ("*", 0), ("+", 0), ("?", 0), ("|", 0), (")", 0), ("(", 1), ("()", 1), ("( )", 2), ("(ab", 3), ("(ab ", 4), ("ab)", 2), ("(ab))", 4), ("ab|", 3), ("ab| ", 4), ("ab||cd", 3), ("|ab", 0),
                            ("(|ab)", 1), ("(ab|)", 4), ("(*)", 1), ("ab|*", 3), ("(ab", 3), ("((ab)", 5), ("ab (", 4), ("ab & cd", 3), ("ab,cd", 2), ("ab\ncd", 2), ("\n", 0), ("ab\n", 2), ("ab !", 3), ("ab -", 3), ("<", 0), ("=", 0), ("0", 0), (",", 0), ("-", 0)]:
            self.at(text, place)

    def test_what_is_no_string(self):
        for thing in [thing for thing in odd_things() if not isinstance(thing, str)] + [("ab",), ["ab"], 5, b"ab", W]:
            self.same(self.raises(BadSigns, read_expression, thing).at, -1)

    def test_first_sign_that_can_not_stand(self):
        """Texts with signs put in, out and elsewhere: all ahead of the place can go on somehow, with the sign it can not."""
        bad = good = 0
        for seed in range(500):
            draw = drawn(seed)
            text = expression_text(drawn_expression(draw, 3))[:18]
            for _ in range(draw.choice((1, 1, 2))):
                place, sign = draw.randrange(len(text) + 1), draw.choice("ab~._[]{}<=-019,()|*+? ")
                text = text[:place] + draw.choice(("", sign)) + text[place + draw.choice((0, 1)):]
            tree = plain_read(text)
            if tree is not None:
                self.same(read_expression(text), tree)
                good += 1
                continue
            at = self.raises(BadSigns, read_expression, text).at
            # a most that is too small can stand, but nothing behind it
            small = re.search(r"\{([0-9]),([0-9])$", text[:at])
            if small and (small[2] == "0" or small[2] < small[1]):
                continue
            self.assertTrue(can_go_on(text[:at]), text)
            if at < len(text):
                self.assertFalse(can_go_on(text[:at + 1]), text)
            bad += 1
        self.assertGreater(min(bad, good), 80)

    def test_no_expression_behind_bad_signs(self):
        for text in ["ab" + "*" * 30, "ab " * 31, "(ab {9,9}){9,9}{9,9}", "ab" + "{9,9}" * 3, "|".join(["ab"] * 301), "ab" + "*" * 90000, "ab|" * 30 + "ab"]:
            self.raises(NoExpression, read_expression, text)
            self.at(text + "!", len(text))
            self.at("(" + text, len(text) + 1)
        for text in ["ab" + "*" * 29, " ".join(["ab"] * 30), "((ab {9,9}){9,9}){1,3}", "ab{9,9}{9,9}{3,3}"]:
            self.assertTrue(is_expression(read_expression(text)))
