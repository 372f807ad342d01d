"""The token that travels around the processors (points 150 and 151)."""


def first_token(end):
    """Returns the token before its first visit."""
    return 1, 0, end + 1, 0


def next_token(token, end):
    """Returns the token that visits processor 0 next, after this one has visited the last processor."""
    turn, balance, low, horizon = token
    if balance == 0:
        return turn + 1, 0, end + 1, low
    return turn, 0, end + 1, horizon
