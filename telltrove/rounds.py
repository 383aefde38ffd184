"""Parting of things that have views and are moved by deeds."""


def rounds_of(views, moves):
    """Labels of all things, round by round, until no further round would part any.

    views has the view of each thing, moves for each thing the thing behind each deed. In the round k two things have
    the same label if at most k deeds never lead to different views. Labels are numbers in the order of the first
    things that have them.
    """
    # Views of books of no house can be nested more deeply than what is looked up in a dict.
    labels = _numbered([views.index(view) for view in views])
    rounds = [labels]
    while True:
        labels = _numbered([(labels[at], tuple([labels[after] for after in row])) for at, row in enumerate(moves)])
        if labels == rounds[-1]:
            return rounds
        rounds.append(labels)


def _numbered(keys):
    """For each key the number of different ones ahead of the first one that is equal."""
    numbers = {}
    for key in keys:
        numbers.setdefault(key, len(numbers))
    return [numbers[key] for key in keys]
