"""One suit, two hands, and what can't be seen."""
