"""Keys, locks, levers: a level that is played act by act, and asked what can still be reached."""
