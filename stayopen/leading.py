"""Steps that lead a play on: asks of which just the told hosts answer, and what the keeper hears."""


def letters_of(player, sender, word):
    """A dict from hosts to the newest letter with this word that is on the way to each from a sender."""
    return {letter.receiver: letter.number for letter in player.letters()
            if letter.sender == sender and letter.word == word}


def newest_letter(player):
    """The number of the letter that was sent last of those on the way."""
    return max([letter.number for letter in player.letters()])


def answer(player, sender, word, places):
    """The newest letters with this word come to some hosts, in their order, each answer right behind."""
    letters = letters_of(player, sender, word)
    for place in places:
        player.step(("pass", letters[place]))
        player.step(("pass", newest_letter(player)))


def end_ask(player, step, heard, kept):
    """A client asks, these hosts answer in the round 1 and these in the round 2."""
    player.step(step)
    answer(player, step[1], "hear", heard)
    answer(player, step[1], "keep", kept)


def go_on_newest(player, client):
    """A client's ask goes on in the newest epoch."""
    player.step(("tell", client))
    player.step(("again", client))
