"""Path expressions as texts: writing them, and reading them sign by sign."""

from wholeways.errors import BadSigns, NoExpression
from wholeways.expressions import need_expression
from wholeways.kinds import GREATEST_WORTH

MOST_SIGNS = 100000
# no worth has more figures
MOST_FIGURES = 19
LETTERS = "abcdefghijklmnopqrstuvwxyz"
FIGURES = "0123456789"
SIGN_OF = {"star": "*", "plus": "+", "maybe": "?"}
KIND_OF = {"*": "star", "+": "plus", "?": "maybe"}


def expression_text(expression):
    """The text of an expression."""
    need_expression(expression)
    return text_of(expression)


def text_of(expression):
    kind = expression[0]
    if kind == "word":
        return expression[1]
    if kind == "back":
        return "~" + expression[1]
    if kind == "any":
        return "."
    if kind == "here":
        return "_"
    if kind == "node":
        return "[" + expression[1] + str(expression[2]) + "]"
    if kind == "then":
        return part_text(expression[1], ("or",)) + " " + part_text(expression[2], ("then", "or"))
    if kind == "or":
        return text_of(expression[1]) + " | " + part_text(expression[2], ("or",))
    if kind == "times":
        sign = "{" + str(expression[1]) + "," + str(expression[2]) + "}"
        return part_text(expression[3], ("then", "or")) + sign
    return part_text(expression[1], ("then", "or")) + SIGN_OF[kind]


def part_text(part, kinds):
    """The text of a part, in parentheses if it is of one of these kinds."""
    text = text_of(part)
    return "(" + text + ")" if part[0] in kinds else text


def read_expression(text):
    """The expression of a text."""
    if not isinstance(text, str):
        raise BadSigns(-1)
    if len(text) > MOST_SIGNS:
        raise NoExpression()
    expression = Reader(text).whole()
    need_expression(expression)
    return expression


class Level:
    """What was read within one pair of parentheses: alternatives, the last one's items, and the last item by itself.

    The last item is kept apart, as what comes behind it may be a sign that takes just this.
    """

    def __init__(self):
        self._either = None
        self._row = None
        self._newest = None

    def has_item(self):
        """Whether there is an item behind which a sign, or the end, can stand."""
        return self._newest is not None

    def add(self, item):
        """One more item stands behind the others."""
        self._row = self._whole_row()
        self._newest = item

    def _whole_row(self):
        if self._row is None:
            return self._newest
        return ("then", self._row, self._newest)

    def turn(self, ahead):
        """The last item becomes the last part of another one."""
        self._newest = ahead + (self._newest,)

    def whole(self):
        """The expression of all that was read."""
        row = self._whole_row()
        return row if self._either is None else ("or", self._either, row)

    def begin_other(self):
        """What comes now is another alternative."""
        self._either = self.whole()
        self._row = None
        self._newest = None


class Reader:
    """Reads a text once, from left to right; levels stand in a list, as they may be nested very deep."""

    def __init__(self, text):
        self._text = text
        self._place = 0
        self._word_end = -1
        self._levels = [Level()]

    def whole(self):
        """The expression of the whole text."""
        self._skip_blanks()
        while self._place < len(self._text):
            self._read_one()
            self._skip_blanks()
        if len(self._levels) > 1 or not self._levels[0].has_item():
            raise BadSigns(self._place)
        return self._levels[0].whole()

    def _skip_blanks(self):
        while self._next_is(" "):
            self._place += 1

    def _next_is(self, signs):
        """Whether there is a next sign, and it is one of these."""
        return self._place < len(self._text) and self._text[self._place] in signs

    def _take(self, signs):
        """The next sign, which must be one of these; where the text ends the place is its length."""
        if not self._next_is(signs):
            raise BadSigns(self._place)
        self._place += 1
        return self._text[self._place - 1]

    def _read_one(self):
        level = self._levels[-1]
        if self._next_is("("):
            self._take("(")
            self._levels.append(Level())
        elif self._next_is("~._[" + LETTERS):
            level.add(self._item())
        elif not level.has_item():
            raise BadSigns(self._place)
        elif self._next_is(")") and len(self._levels) > 1:
            self._take(")")
            self._levels.pop()
            self._levels[-1].add(level.whole())
        elif self._next_is("{"):
            least, most = self._bounds()
            level.turn(("times", least, most))
        else:
            self._sign_behind(level)

    def _sign_behind(self, level):
        sign = self._take("|*+?")
        if sign == "|":
            level.begin_other()
        else:
            level.turn((KIND_OF[sign],))

    def _item(self):
        if self._next_is(LETTERS):
            # two words without a blank between would be one
            if self._place == self._word_end:
                raise BadSigns(self._place)
            return ("word", self._word())
        sign = self._take("~._[")
        if sign == "~":
            return ("back", self._word())
        if sign == "[":
            return self._node()
        return ("any",) if sign == "." else ("here",)

    def _word(self):
        first = self._take(LETTERS)
        word = first + self._take(LETTERS)
        self._word_end = self._place
        return word

    def _node(self):
        sign = self._take("<=>")
        start = self._place
        is_below = self._next_is("-")
        if is_below:
            self._take("-")
        figures = self._take("123456789" if is_below else FIGURES)
        if figures != "0":
            while self._next_is(FIGURES):
                figures = figures + self._take(FIGURES)
        if len(figures) > MOST_FIGURES or int(figures) > GREATEST_WORTH:
            raise BadSigns(start)
        self._take("]")
        return ("node", sign, -int(figures) if is_below else int(figures))

    def _bounds(self):
        """The least and the most of braces; no most that is 0, or less than the least, can be closed."""
        self._take("{")
        least = int(self._take(FIGURES))
        self._take(",")
        most = int(self._take(FIGURES))
        if most == 0 or most < least:
            raise BadSigns(self._place)
        self._take("}")
        return (least, most)
