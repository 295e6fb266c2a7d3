"""The tests of bentcoin."""
