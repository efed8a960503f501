"""A desk: requests, one a line, to a new Office, and its replies."""

from keepcompany.errors import BadText, CanNot, TooMany
from keepcompany.figures import fraction_by, number_by, part_by, row_by, row_written
from keepcompany.joints import away, box_of, part_shaped, stuck
from keepcompany.office import Office
from keepcompany.ratios import ZERO
from keepcompany.texts import box_lines, taken_text

MOST_LAG = 9
MOST_PUSHES = 12
# No number in a request has more than six figures.
TOO_GREAT = 10 ** 6
ALONE = ("box", "keeps", "redo", "turn", "undo")
EDITS = ("add", "late", "off", "times", "turn")


def short(fraction):
    return abs(fraction[0]) < TOO_GREAT and fraction[1] < TOO_GREAT


def told_by(word, words):
    """What word tells with the words behind it; None if it tells nothing."""
    if word in ("add", "off", "runs"):
        part = part_by(words)
        return part if part_shaped(part) and short(part[1]) else None
    if word == "push":
        row = row_by(words)
        return row if row and len(row) <= MOST_PUSHES and row[0] != ZERO and all([short(own) for own in row]) else None
    if len(words) != 1:
        return None
    if word == "times":
        many = fraction_by(words[0])
        return many if many is not None and many[0] > 0 and short(many) else None
    lag = number_by(words[0]) if word == "late" else None
    return lag if lag is not None and 1 <= lag <= MOST_LAG else None


def request_by(line):
    """The tuple of the first word of line and what it tells; None if line is no request."""
    words = line.split(" ")
    word = words[0]
    if word in ALONE:
        return (word,) if len(words) == 1 else None
    told = told_by(word, words[1:])
    return None if told is None else (word, told)


def is_request(line):
    """Whether line is a request."""
    return request_by(taken_text(line)) is not None


def opened(box, text):
    """The pair of a new Office with box and the list of the requests of text."""
    office, lines = Office(box), taken_text(text).split("\n")
    requests = [request_by(line) for line in lines]
    if None in requests:
        raise BadText(requests.index(None))
    return office, requests


def runs_reply(box, part):
    """The reply to runs."""
    held = box_of(part)
    if stuck(box, held):
        return "stuck"
    return "yes" if away(box, held) else "no"


def told_reply(office, request):
    """The reply to a request that changes nothing."""
    if request[0] == "box":
        return " | ".join(box_lines(office.box_now()))
    if request[0] == "keeps":
        return "yes" if office.keeps() else "no"
    if request[0] == "runs":
        return runs_reply(office.box_now(), request[1])
    return row_written([answer for _, answer in office.heard(request[1])])


def done_reply(office, request):
    """Does what request tells; the reply."""
    if request[0] in EDITS:
        office.do(request)
    elif request[0] == "undo":
        office.undo()
    elif request[0] == "redo":
        office.redo()
    else:
        return told_reply(office, request)
    return "done"


def reply_of(office, request):
    """The reply of office to request, a refusal among them."""
    try:
        return done_reply(office, request)
    except CanNot:
        return "refused CanNot"
    except TooMany:
        return "refused TooMany"


def replies(box, text):
    """The list of the replies of a new Office with box to the lines of text."""
    office, requests = opened(box, text)
    return [reply_of(office, request) for request in requests]


def last_office(box, text):
    """That Office behind all lines of text."""
    office, requests = opened(box, text)
    for request in requests:
        reply_of(office, request)
    return office
