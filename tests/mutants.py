"""Texts that differ a little from a given one, for the tests of what is read."""


def doubled(parts, at):
    return parts[:at + 1] + parts[at:]


def left_out(parts, at):
    return parts[:at] + parts[at + 1:]


def exchanged(parts, at):
    return parts[:at] + parts[at + 1:at + 2] + parts[at:at + 1] + parts[at + 2:]


def changed_lists(parts):
    """The list with each one of its parts left out, doubled, or exchanged with the next one."""
    for at in range(len(parts)):
        for change in (left_out, doubled, exchanged):
            yield change(parts, at)


STRANGE_WORDS = [
    "", "+1", "01", "-0", "00", "-01", "--1", "1-", "1.0", "..", "x", "None", "none", "\u0661", "\uff11", "\u00b2",
    "1_0", "1e0", "0x1", " ", "\t", "1\t", "\u00a0", "-", "\u22121", "1" * 60, "1" * 61, "-" + "1" * 60, "True",
]


def word_mutants(text):
    """The text with a word or a row left out, doubled, exchanged, or a word changed."""
    rows = text.split("\n")
    for changed in changed_lists(rows):
        yield "\n".join(changed)
    for at, row in enumerate(rows):
        words = row.split(" ")
        for changed in changed_lists(words):
            yield "\n".join(rows[:at] + [" ".join(changed)] + rows[at + 1:])
        for place in range(len(words)):
            for word in STRANGE_WORDS:
                changed = " ".join(words[:place] + [word] + words[place + 1:])
                yield "\n".join(rows[:at] + [changed] + rows[at + 1:])


def sign_mutants(text, signs):
    """The text with any one sign left out, doubled, exchanged with the next one, changed, or one more."""
    for at in range(len(text)):
        for change in (left_out, doubled, exchanged):
            yield change(text, at)
        for sign in signs:
            yield text[:at] + sign + text[at + 1:]
            yield text[:at] + sign + text[at:]
    for sign in signs:
        yield text + sign


def end_mutants(text):
    """The text with something at an end."""
    for more in (" ", "\n", "  ", "\n\n", "\t", "\r", "\r\n", "\x00", "\x0b", "\u2028", "0", "."):
        yield text + more
        yield more + text
