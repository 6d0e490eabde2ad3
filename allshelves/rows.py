"""The rows of logs, their form and their texts ([6.1])."""

from allshelves.errors import BadText
from allshelves.forms import ALPHABET, LONGEST_WORD
from allshelves.forms import is_count, is_integer, is_integer_in, is_word

ROLES = ("leader", "member")
ROW_ENDS = ("kept", "dropped")
HOUSES = "0123"
FEWEST_HOUSES = 2
MOST_HOUSES = 4
DIGITS = "0123456789"

# What follows the deal in a row with each word.
ROW_PARTS = {
    "begin": ("role", "houses"),
    "read": ("word",),
    "write": ("word", "worth", "worth"),
    "undo": ("word", "worth"),
    "mark": ("word",),
    "end": ("end",),
}


def has_row_form(thing):
    if not isinstance(thing, tuple) or len(thing) < 2:
        return False
    if not isinstance(thing[0], str) or thing[0] not in ROW_PARTS:
        return False
    parts = ROW_PARTS[thing[0]]
    if len(thing) != 2 + len(parts) or not is_count(thing[1]):
        return False
    return all([has_part_form(part, item) for part, item in zip(parts, thing[2:])])


def has_worth_form(thing):
    return thing is None or is_integer(thing)


def has_part_form(part, thing):
    """Whether any value can be this part of a row."""
    if part == "role":
        return thing in ROLES
    if part == "end":
        return thing in ROW_ENDS
    if part == "houses":
        return has_houses_form(thing)
    return is_word(thing) if part == "word" else has_worth_form(thing)


def has_houses_form(thing):
    if not isinstance(thing, tuple) or not FEWEST_HOUSES <= len(thing) <= MOST_HOUSES:
        return False
    if not all([is_integer_in(house, 0, MOST_HOUSES - 1) for house in thing]):
        return False
    return len(set(thing)) == len(thing)


def text_with(row):
    return " ".join([item_text(item) for item in row])


def item_text(item):
    if item is None:
        return "-"
    if isinstance(item, tuple):
        return ",".join([str(house) for house in item])
    return str(item)


class RowReader:
    """The characters of a text, taken one after another."""

    def __init__(self, source):
        self.source = source
        self.at = 0

    def next_one(self):
        # After the last character comes a line feed, which is never right, so an
        # incomplete text is found wrong at its length.
        return self.source[self.at] if self.at < len(self.source) else "\n"

    def take_one_of(self, characters):
        """Steps over the next character, which is wrong if it is none of these, and returns it."""
        character = self.next_one()
        if character not in characters:
            raise BadText(self.at)
        self.at += 1
        return character

    def take_all_of(self, characters, most):
        """Steps over characters as long as they are such, at most so many, and returns them."""
        start = self.at
        while self.next_one() in characters and self.at - start < most:
            self.at += 1
        return self.source[start:self.at]

    def choice(self, words):
        """One of some words, none of which begins another one."""
        taken = ""
        while taken not in words:
            size = len(taken)
            taken += self.take_one_of([word[size] for word in words if word[:size] == taken])
        return taken

    def word(self):
        first = self.take_one_of(ALPHABET)
        return first + self.take_all_of(ALPHABET, LONGEST_WORD - 1)

    def number(self):
        first = self.take_one_of(DIGITS)
        # Python writes no further digit after a 0 at the beginning.
        return number_with(first if first == "0" else first + self.take_all_of(DIGITS, len(self.source)))

    def worth(self):
        if self.next_one() != "-":
            return self.number()
        self.at += 1
        return -self.number() if self.next_one() in DIGITS[1:] else None

    def houses(self):
        houses = self.take_one_of(HOUSES)
        while len(houses) < FEWEST_HOUSES or (self.next_one() == "," and len(houses) < MOST_HOUSES):
            self.take_one_of(",")
            houses += self.take_one_of([house for house in HOUSES if house not in houses])
        return tuple([HOUSES.index(house) for house in houses])

    def part(self, part):
        if part == "role":
            return self.choice(ROLES)
        if part == "end":
            return self.choice(ROW_ENDS)
        if part == "houses":
            return self.houses()
        return self.word() if part == "word" else self.worth()

    def finish(self):
        """Finds any further character wrong."""
        if self.at < len(self.source):
            raise BadText(self.at)


def number_with(digits):
    # int(..) takes no text of more than 4,300 digits; here any number of them may stand.
    number = 0
    for digit in digits:
        number = number * 10 + DIGITS.index(digit)
    return number


def row_with(text):
    """The row with a text."""
    reader = RowReader(text)
    word = reader.choice(list(ROW_PARTS))
    reader.take_one_of(" ")
    row = (word, reader.number())
    for part in ROW_PARTS[word]:
        reader.take_one_of(" ")
        row = row + (reader.part(part),)
    reader.finish()
    return row
