"""Online icebreaker dispatch on a line: double coverage beside greedy and the optimal offline plan."""
