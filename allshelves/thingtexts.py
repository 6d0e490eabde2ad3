"""The texts of things ([14.2]), written and read."""

from allshelves.rows import DIGITS, item_text, number_with

# What follows the word of a thing.
PARTS = {
    "open": ("numbers",),
    "read": ("number", "number", "word"),
    "write": ("number", "number", "word", "worth"),
    "fire": ("number", "number", "number"),
    "hear": ("number", "number", "number", "word"),
    "fall": ("number", "numbers"),
    "amid": ("thing", "number", "numbers"),
    "up": ("number",),
    "flush": ("number", "number"),
    "force": ("number",),
}


def thing_text(thing):
    texts = [thing_text(part) if is_thing_within(part) else item_text(part) for part in thing]
    # Only an empty tuple has an empty text.
    return " ".join([text for text in texts if text != ""])


def is_thing_within(part):
    return isinstance(part, tuple) and len(part) > 0 and isinstance(part[0], str)


def thing_guessed(line):
    """The only thing that can have this line; most lines are the line of no thing."""
    return guessed_from(line.split(" "))


def guessed_from(words):
    thing = (words[0],)
    words = words[1:]
    for part in PARTS.get(thing[0], ()):
        size = 1
        if part == "thing":
            size = 1 + len(PARTS.get("".join(words[:1]), ()))
        thing = thing + (part_guessed(part, words[:size]),)
        words = words[size:]
    return thing


def part_guessed(part, words):
    word = "".join(words[:1])
    if part == "thing":
        return guessed_from([word] + words[1:])
    if part == "numbers":
        return () if word == "" else tuple([integer_guessed(number) for number in word.split(",")])
    if part == "word":
        return word
    return None if part == "worth" and word == "-" else integer_guessed(word)


def integer_guessed(word):
    """The integer that a word can be; an integer of another text for the word of none."""
    digits = word[1:] if word[:1] == "-" else word
    if not all([digit in DIGITS for digit in digits]):
        return 0
    return -number_with(digits) if word[:1] == "-" else number_with(digits)
