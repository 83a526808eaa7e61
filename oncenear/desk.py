"""A desk: lines that are done one behind another, and texts that answer them."""

from oncenear.dots import added
from oncenear.errors import NoLine
from oncenear.hardness import hardest
from oncenear.rounding import Form
from oncenear.telling import table
from oncenear.texts import number_text, read_number, whole_of, whole_text
from oncenear.words import FUNCTIONS, METHODS, WAYS, need_word
from oncenear.works import Works

MOST_SIGNS = 1000
EXACT = "exact"


def form_line(desk, words):
    """Take another form."""
    wholes = [whole_of(word) for word in words]
    if None in wholes:
        raise NoLine("three whole numbers are needed")
    bits, least, most = wholes
    desk.change(Form(bits, least=least, most=most), desk.way, desk.method)
    return repr(desk.form)


def way_line(desk, words):
    """Take another way."""
    need_word(words[0], WAYS)
    desk.change(desk.form, words[0], desk.method)
    return words[0]


def by_line(desk, words):
    """Take another method."""
    need_word(words[0], METHODS)
    desk.change(desk.form, desk.way, words[0])
    return words[0]


def told_line(desk, words):
    """Tell a worth; the first word is a function's."""
    need_many(words, 2)
    number = read_number(words[1])
    return number_text(desk.works.told(desk.form, words[0], number, way=desk.way, by=desk.method))


def show_line(desk, words):
    """Show the stretch around a worth."""
    need_function(words[0])
    number = read_number(words[1])
    stretch = desk.works.shown(desk.form, words[0], number, way=desk.way, by=desk.method)
    return f"{number_text(stretch.low)} {number_text(stretch.high)}"


def hard_line(desk, words):
    """Tell how hard a worth is."""
    need_function(words[0])
    number = read_number(words[1])
    hard = desk.works.hardness(desk.form, words[0], number, way=desk.way)
    return EXACT if hard is None else whole_text(hard)


def hardest_line(desk, words):
    """Tell how hard the hardest worths are, and where."""
    need_function(words[0])
    hard, numbers = hardest(desk.form, words[0], way=desk.way)
    if hard is None:
        return EXACT
    return " ".join([whole_text(hard)] + [number_text(number) for number in numbers])


def table_line(desk, words):
    """Tell how many rows a table has, and the sum of what is told in it."""
    need_function(words[0])
    rows = table(desk.form, words[0], way=desk.way)
    total = (0, 0)
    for number, answer in rows:
        total = added(total, answer)
    return f"{len(rows)} {number_text(total)}"


def bits_line(desk, words):
    """Tell to how many bits pi and the logarithm of 2 are known."""
    pi_bits, log_two_bits = desk.works.known()
    return f"{pi_bits} {log_two_bits}"


def undo_line(desk, words):
    """Take back the last change."""
    desk.change_back()
    return repr(desk.form)


# By their first word: what the line does, and how many words are behind that one.
LINES = {"form": form_line, "way": way_line, "by": by_line, "show": show_line, "hard": hard_line,
         "hardest": hardest_line, "table": table_line, "bits": bits_line, "undo": undo_line}
WORDS_BEHIND = {"form": 3, "way": 1, "by": 1, "show": 2, "hard": 2, "hardest": 1, "table": 1, "bits": 0, "undo": 0}


class Desk:
    """Holds a form, a way, a method and a works, and does lines."""

    def __init__(self, *, bits=8, least=-12, most=8):
        self.form = Form(bits, least=least, most=most)
        self.way = "near"
        self.method = "series"
        self.works = Works()
        self.past = []

    def tell(self, line):
        """Do a line, and tell its answer."""
        words = words_of(line)
        first = words[0]
        if first in FUNCTIONS:
            return told_line(self, words)
        if first not in LINES:
            raise NoLine("there is no such line")
        behind = words[1:]
        need_many(behind, WORDS_BEHIND[first])
        act = LINES[first]
        return act(self, behind)

    def change(self, form, way, method):
        """Take another form, way and method, so that it can be undone."""
        self.past.append((self.form, self.way, self.method))
        self.form = form
        self.way = way
        self.method = method

    def change_back(self):
        """Take the form, way and method from ahead of the last change."""
        if not self.past:
            raise NoLine("there is nothing to undo")
        self.form, self.way, self.method = self.past.pop()


def words_of(line):
    """The words of a line, with one blank between."""
    if not isinstance(line, str) or len(line) > MOST_SIGNS:
        raise NoLine("a text of at most 1000 signs is needed")
    words = line.split(" ")
    if "" in words:
        raise NoLine("words with one blank between are needed")
    return words


def need_many(words, many):
    """Refuse with NoLine where there aren't so many words."""
    if len(words) != many:
        raise NoLine("there are too many words, or too few")


def need_function(word):
    """Refuse with NoLine a word in a function's place that is none."""
    if word not in FUNCTIONS:
        raise NoLine("there is no such function")
