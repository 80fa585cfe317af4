"""Lookers over a ledger: what of their own answers is otherwise than when they looked last."""

from unsaybook.errors import NoName
from unsaybook.words import is_name

UNSAID = "unsaid"
SAID_AGAIN = "said again"


class Lookers:
    def __init__(self, ledger):
        self.ledger = ledger
        # By name, a dict of the numbers of those answers that were unsaid at the last look.
        self.seen = {}

    def look(self, who):
        if not is_name(who):
            raise NoName(who)
        ahead = self.seen.get(who, {})
        present = dict([(number, True) for number in self.unsaid_to(who)])
        self.seen[who] = present
        lines = []
        for number in sorted(set(ahead) | set(present)):
            if number not in ahead:
                lines.append((number, UNSAID))
            elif number not in present:
                lines.append((number, SAID_AGAIN))
        return lines

    def unsaid_to(self, who):
        return [number for number, since, deed in self.ledger.unsaid() if self.ledger.given(number)[0] == who]
