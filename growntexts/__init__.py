"""Growntexts: programs that grow texts in boxes, compared for all inputs."""
