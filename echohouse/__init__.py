"""Echohouse: sound boxes of delays, sums and gains, and what comes out of them."""
