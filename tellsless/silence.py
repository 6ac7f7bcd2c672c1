"""Questions that tell nothing of the world: dice, who do not see it, answer them as well."""

from tellsless.ratios import NOUGHT, are_nought, divided, scaled_weights


def share_of(weights, ahead):
    """The share of the weights ahead that some weights are in all worlds; None if there is none.

    In a world in which the weight ahead is NOUGHT any share will do.
    """
    share = NOUGHT
    for weight, before in zip(weights, ahead):
        if before != NOUGHT:
            share = divided(weight, before)
    if scaled_weights(share, ahead) != weights:
        return None
    return share


def is_mute(answer, ahead):
    """Whether an answer is hopeless, or it and all that is asked behind it tell nothing of the world."""
    if are_nought(answer[1]):
        return True
    if share_of(answer[1], ahead) is None:
        return False
    return all([is_silent(question, answer[1]) for question in answer[2]])


def is_silent(question, ahead):
    """Whether a question, behind an answer with the weights ahead, and all behind it tell nothing of the world."""
    return all([is_mute(answer, ahead) for answer in question])
