"""Beadway: beads of unlike weights on one line that stick or bounce where they meet."""
