"""Bentcoin: exact probabilities for programs that toss a coin of unknown bias."""
