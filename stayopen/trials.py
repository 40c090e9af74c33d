"""Blocks behind which a player is as it was."""


class Trial:
    """For one block: behind it the player has the play again that it had when the block began."""

    def __init__(self, player):
        self.player = player
        self._play = None
        self.epoch = None

    def __enter__(self):
        self._play = self.player._play
        self.epoch = self.player.epoch
        # In the block the player goes on with a twin, so the play stays as it is.
        self.player._play = self._play.twin()
        return self.player

    def __exit__(self, kind, value, trace):
        player = self.player
        player._play = self._play
        player.epoch = self.epoch
