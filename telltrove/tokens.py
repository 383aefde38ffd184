"""The tokens of a house text."""

RUNNING = "abcdefghijklmnopqrstuvwxyzABCDEFGHIJKLMNOPQRSTUVWXYZ0123456789"
PAIRS = ("..", "<=")


def tokens_of(text):
    """The tokens of a text, in order."""
    tokens = []
    at = 0
    while at < len(text):
        end = _end_of(text, at)
        if text[at] != " " and text[at] != "\n":
            tokens.append(text[at:end])
        at = end
    return tuple(tokens)


def _end_of(text, at):
    """The place behind the longest token that begins at a place; a blank counts as one by itself."""
    begin = at + 1 if text[at] == "-" else at
    end = begin
    while end < len(text) and text[end] in RUNNING:
        end += 1
    if end > begin:
        return end
    if text[at:at + 2] in PAIRS:
        return at + 2
    return at + 1
