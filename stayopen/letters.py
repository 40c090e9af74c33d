"""Letters between clients, hosts and the keeper of the store."""

from stayopen.copied import copied


class Letter:
    """A letter with its number; clients are told by names, hosts by places, the keeper by None."""

    def __init__(self, number, sender, receiver, word, parts):
        self.number = copied(number)
        self.sender = copied(sender)
        self.receiver = copied(receiver)
        self.word = copied(word)
        self.parts = copied(parts)

    def __eq__(self, other):
        if not isinstance(other, Letter):
            return False
        if self.number != other.number or self.sender != other.sender or self.receiver != other.receiver:
            return False
        return self.word == other.word and self.parts == other.parts
