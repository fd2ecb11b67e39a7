"""Slackfigures: quotients and roots by looked-up figures with slack."""
