"""The texts of patterns and of books (points 14 and 15)."""

from graftform.books import book_of
from graftform.bounds import BOOK_RULES
from graftform.docs import is_letter, is_name
from graftform.errors import NoBook, NoPattern
from graftform.patterns import Chain, Choice, Mixed, One, Times, chain, choice, mixed, one, times
from graftform.wholes import FIGURES

SHORT_COUNTS = {"?": (0, 1), "*": (0, None), "+": (1, None)}


class OpenPattern:
    """What is read so far of a pattern whose end hasn't come: the pieces of its last chain, the chains of
    its last mix, and the parts of its choice."""

    def __init__(self):
        self.pieces = []
        self.chains = []
        self.choices = []

    def end_chain(self):
        """What follows belongs to another chain of the mix."""
        self.chains.append(chain(self.pieces))
        self.pieces = []

    def end_mix(self):
        """What follows belongs to another part of the choice."""
        self.end_chain()
        self.choices.append(mixed(self.chains))
        self.chains = []

    def end(self):
        """The whole pattern."""
        self.end_mix()
        return choice(self.choices)


def words_of(text):
    """The text's runs of letters and its other signs, blanks left out."""
    words = []
    at = 0
    while at < len(text):
        end = at + 1
        while is_letter(text[at]) and end < len(text) and is_letter(text[end]):
            end += 1
        if text[at] != " ":
            words.append(text[at:end])
        at = end
    return words


def figure_of(word):
    """The number that one figure tells, or NoPattern."""
    number = FIGURES.find(word)
    if number == -1:
        raise NoPattern("a count is told by one figure")
    return number


def counts_within(words):
    """The lower and the higher count that stand in braces, or NoPattern."""
    if not 1 <= len(words) <= 3 or words[1:2] not in ([], [","]):
        raise NoPattern("braces hold one count, or two parted by a comma")
    low = figure_of(words[0])
    if len(words) == 1:
        return low, low
    return low, figure_of(words[2]) if len(words) == 3 else None


def counts_at(words, at):
    """The counts that begin at a spot, and the spot behind them; once is the count where none stands there."""
    if at == len(words):
        return 1, 1, at
    if words[at] in SHORT_COUNTS:
        low, high = SHORT_COUNTS[words[at]]
        return low, high, at + 1
    if words[at] != "{":
        return 1, 1, at
    if "}" not in words[at:]:
        raise NoPattern("braces are left open")
    end = words.index("}", at)
    low, high = counts_within(words[at + 1:end])
    return low, high, end + 1


def piece_of(word, opened):
    """The piece that a word ends: a name, or the last opened bracket, which it closes; or NoPattern."""
    if word == ")" and len(opened) > 1:
        return opened.pop().end()
    if not is_name(word):
        raise NoPattern("a sign that can't stand there")
    return one(word)


def read_pattern(text):
    """The pattern that a text tells, or NoPattern."""
    words = words_of(text)
    # The whole and the brackets that are open, in a list: deep brackets need no deep calls so.
    opened = [OpenPattern()]
    at = 0
    while at < len(words):
        word = words[at]
        at += 1
        if word == "(":
            opened.append(OpenPattern())
        elif word == "&":
            opened[-1].end_chain()
        elif word == "|":
            opened[-1].end_mix()
        else:
            piece = piece_of(word, opened)
            low, high, at = counts_at(words, at)
            opened[-1].pieces.append(times(piece, low, high))
    if len(opened) > 1:
        raise NoPattern("a bracket is left open")
    return opened[0].end()


def show_counts(low, high):
    """The text of a lower and a higher count."""
    for sign, counts in SHORT_COUNTS.items():
        if counts == (low, high):
            return sign
    if high is None:
        return "{" + str(low) + ",}"
    return "{" + str(low) + "}" if low == high else "{" + str(low) + "," + str(high) + "}"


def show_piece(pattern):
    """The text of a pattern as a piece without a count."""
    text = show_pattern(pattern)
    return text if isinstance(pattern, One) else f"({text})"


def show_link(pattern):
    """The text of a part of a chain: what has a count needs no brackets."""
    return show_pattern(pattern) if isinstance(pattern, Times) else show_piece(pattern)


def show_share(pattern):
    """The text of a part of a mix: chains bind closer than the mix does, choices don't."""
    return show_piece(pattern) if isinstance(pattern, Choice) else show_pattern(pattern)


def show_pattern(pattern):
    """A text that tells the pattern."""
    if isinstance(pattern, One):
        return pattern.form
    if isinstance(pattern, Times):
        return show_piece(pattern.part) + show_counts(pattern.low, pattern.high)
    if isinstance(pattern, Chain):
        return " ".join([show_link(part) for part in pattern.parts])
    if isinstance(pattern, Mixed):
        return " & ".join([show_share(part) for part in pattern.parts])
    return " | ".join([show_pattern(part) for part in pattern.parts])


def read_rule(text, row):
    """The rule that a text tells, or NoBook with its number."""
    form, equals, rest = [part.strip(" ") for part in text.partition("=")]
    name, bracket, tail = [part.strip(" ") for part in rest.partition("(")]
    if not is_name(form) or not is_name(name):
        raise NoBook(row)
    if not bracket:
        return (form, name, chain([]))
    if not tail.endswith(")"):
        raise NoBook(row)
    try:
        return (form, name, read_pattern(tail[:-1]))
    except NoPattern:
        raise NoBook(row) from None


def read_book(text):
    """The book that a text tells, or NoBook."""
    texts = text.split(";")
    if len(texts) > BOOK_RULES:
        raise NoBook(BOOK_RULES)
    return book_of([read_rule(part, row) for row, part in enumerate(texts)])


def show_rule(form, name, pattern):
    """A text that tells a rule."""
    text = show_pattern(pattern)
    return f"{form} = {name}({text})" if text else f"{form} = {name}"


def show_book(book):
    """A text that tells the book."""
    return "; ".join([show_rule(form, name, pattern) for form, name, pattern in book])
