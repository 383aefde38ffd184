"""The least sets of things in which tied things are together."""


def unions(things, ties):
    """The least sets such that all things of a tie are in one of them.

    Things are in order, and so are the things of each set; sets are ordered by their first things.
    """
    lead = {thing: thing for thing in things}
    for tie in ties:
        leads = [lead[thing] for thing in tie]
        lead = {thing: leads[0] if own in leads else own for thing, own in lead.items()}
    sets = {}
    for thing in things:
        sets.setdefault(lead[thing], []).append(thing)
    return tuple([tuple(members) for members in sets.values()])
