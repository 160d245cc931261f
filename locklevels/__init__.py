"""Keys, locks, levers: a level that is played act by act, asked what can still be reached, and edited."""
