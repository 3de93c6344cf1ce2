"""Names, words, sides and planes, as texts and arguments tell them."""

LETTERS = "abcdefghijklmnopqrstuvwxyz"
SIDES = ("left", "right")
PLANES = ("u", "v")


def is_name(value):
    """Whether value can be a ship's name, or a flash's word."""
    if not isinstance(value, str) or not 1 <= len(value) <= 6:
        return False
    return all([letter in LETTERS for letter in value])


def other_side(side):
    return "right" if side == "left" else "left"
