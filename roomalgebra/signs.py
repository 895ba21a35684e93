"""The signs of patterns, how strongly they bind, and how shapes are written in them."""

SIGNS = {
    "never": "0", "empty": "1", "any": ".",
    "either": "|", "less": "-", "both": "&", "then": "",
    "outside": "!", "turned": "<", "again": "*",
}

KINDS = {
    "0": "never", "1": "empty", ".": "any",
    "|": "either", "-": "less", "&": "both",
    "!": "outside", "<": "turned", "*": "again",
}

STRENGTHS = {
    "either": 1, "less": 1, "both": 2, "then": 3, "outside": 4, "turned": 4, "again": 5,
    "never": 5, "empty": 5, "sign": 5, "any": 5,
}


# To the left may stand what binds alike, as that is taken together first; to the right only what binds more strongly.
def text_of(shape):
    kind = shape[0]
    strength = STRENGTHS[kind]
    if kind == "sign":
        return shape[1]
    if len(shape) == 1:
        return SIGNS[kind]
    if len(shape) == 3:
        return text_within(shape[1], strength) + SIGNS[kind] + text_within(shape[2], strength + 1)
    if kind == "again":
        return text_within(shape[1], strength) + SIGNS[kind]
    return SIGNS[kind] + text_within(shape[1], strength)


def text_within(shape, strength):
    if STRENGTHS[shape[0]] < strength:
        return "(" + text_of(shape) + ")"
    return text_of(shape)
