"""Everyorder: programs that tell every order once."""
