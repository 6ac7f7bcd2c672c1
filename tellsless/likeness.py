"""Doings by which a holder passes on what is heard: a good plan to begin with where houses are much alike."""


def ranks_of(ground):
    """For each place how many places, ahead of it behind the same question, have the same weights."""
    ranks = [0] * len(ground.place_weights)
    for questions in ground.place_questions:
        for _, heard in questions:
            seen = {}
            for _, place in heard:
                weights = ground.place_weights[place]
                ranks[place] = seen.get(weights, 0)
                seen[weights] = ranks[place] + 1
    return ranks


def are_passing(turns, found):
    """Whether at each of some turns a doing was found."""
    return all([found[turn] is not None for turn in turns])


def passing_doings(errand):
    """For each turn the number of a doing that passes on what is heard, and can go on so; None if there is none.

    It tells an answer with just the weights that stand, or asks a question behind all
    answers of which one can go on so.
    """
    ranks = ranks_of(errand.ground)
    found = []
    for (question, place), doings in zip(errand.turns, errand.doings):
        stand = errand.ground.place_weights[place]
        passing = [
            number
            for number, (word, told, turns, _) in enumerate(doings)
            if are_passing(turns, found) and (word == "ask" or errand.told_weights[question][told] == stand)
        ]
        telling = [number for number in passing if doings[number][0] == "tell"]
        if len(telling) > ranks[place]:
            found.append(telling[ranks[place]])
        elif len(passing) > 0:
            found.append(passing[0])
        else:
            found.append(None)
    return found
