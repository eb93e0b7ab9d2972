"""Plans and what they are made of."""
